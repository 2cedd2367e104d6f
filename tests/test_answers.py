import unittest
from random import Random

from shuffletold.among import nth, place_among
from shuffletold.answers import answers
from shuffletold.coins import die
from shuffletold.counts import count
from shuffletold.errors import NoRow, OrderError
from shuffletold.means import mean, spread
from shuffletold.rounds import rounds_of
from shuffletold.stopping import best_share
from shuffletold.throws import order_of, swapped, swaps_of, throws_of
from shuffletold.told import told
from tests.helper import (
    KINDS, STEP_KINDS, drawn_orders, drawn_throws, long_orders, orders_to, throws_of_all, wrong_things
)

RIGHT = (
    ("count rounds 2 0 1 3", "2"),
    ("count stays 2 0 1 3", "1"),
    ("count rises 2 0 1 3", "2"),
    ("count highs 2 0 1 3", "2"),
    ("count crossed 2 0 1 3", "2"),
    ("count longest 2 0 1 3", "3"),
    ("count longest -", "0"),
    ("among crossed 1 2 0 3", "3"),
    ("among rounds -", "0"),
    ("rounds 2 0 1 3", "(0 2 1)(3)"),
    ("rounds -", "-"),
    ("throws 2 0 1 3", "0 1 1 0"),
    ("throws -", "-"),
    ("swaps 1 2 0", "0 0 1"),
    ("swaps -", "-"),
    ("order 0 1 1 0", "2 0 1 3"),
    ("order -", "-"),
    ("swapped 0 0 1", "1 2 0"),
    ("swapped -", "-"),
    ("told rounds 4", "0 6 11 6 1"),
    ("told longest 0", "1"),
    ("mean rounds 4", "25/12"),
    ("mean stays 0", "0/1"),
    ("spread rises 60", "61/12"),
    ("nth crossed 4 2 3", "1 2 0 3"),
    ("nth crossed 4 2 5", "none"),
    ("nth rounds 0 0 0", "-"),
    ("nth rounds 0 0 1", "none"),
    ("best 4 1", "11/24"),
    ("best 1 0", "0/1"),
    ("die 6 1 1 0 0 1", "1 5"),
    ("die 6 -", "none"),
    ("die 1 -", "0 0"),
)
ROWS = [row for row, answer in RIGHT]


def text_of(numbers):
    return " ".join(f"{number}" for number in numbers) or "-"


def share_text(share):
    return f"{share[0]}/{share[1]}"


class Answering(unittest.TestCase):
    def answered(self, row, wanted):
        found = answers(row)
        self.assertEqual((type(found), [type(text) for text in found]), (tuple, [str]), row)
        self.assertEqual(found, (wanted,), row)

    def refused(self, thing, row=0):
        with self.assertRaises(NoRow) as caught:
            answers(thing)
        self.assertIs(type(caught.exception), NoRow)
        self.assertIsInstance(caught.exception, OrderError)
        self.assertIs(type(caught.exception.row), int)
        self.assertEqual(caught.exception.row, row)

    def answers_none(self, word, rests):
        for rest in rests:
            self.refused(f"{word} {rest}")


class EachForm(Answering):
    def test_plain_ones(self):
        for row, wanted in RIGHT:
            self.answered(row, wanted)

    def test_counts_and_places(self):
        for order in orders_to(4) + drawn_orders(111, (5, 8, 11, 12)):
            for kind in KINDS:
                self.answered(f"count {kind} {text_of(order)}", str(count(kind, order)))
            for kind in STEP_KINDS:
                self.answered(f"among {kind} {text_of(order)}", str(place_among(kind, order)))

    def test_long_counts_and_places(self):
        for order in [order for order in long_orders() if len(order) <= 60] + drawn_orders(112, (30, 59, 60)):
            for kind in KINDS:
                self.answered(f"count {kind} {text_of(order)}", str(count(kind, order)))
        for order in drawn_orders(113, (23, 24, 24)):
            for kind in STEP_KINDS[:4]:
                self.answered(f"among {kind} {text_of(order)}", str(place_among(kind, order)))

    def test_orders_and_throws(self):
        for order in orders_to(4) + drawn_orders(114, (5, 10, 11, 30, 59, 60, 60)):
            rounds = "".join(f"({text_of(found)})" for found in rounds_of(order)) or "-"
            self.answered(f"rounds {text_of(order)}", rounds)
            self.answered(f"throws {text_of(order)}", text_of(throws_of(order)))
            self.answered(f"swaps {text_of(order)}", text_of(swaps_of(order)))
        for throws in throws_of_all(4) + drawn_throws(115, (0, 1, 5, 10, 11, 30, 59, 60, 60)):
            self.answered(f"order {text_of(throws)}", text_of(order_of(throws)))
            self.answered(f"swapped {text_of(throws)}", text_of(swapped(throws)))

    def test_told_means_and_spreads(self):
        for kind in KINDS:
            for many in range(9 if kind in ("crossed", "longest") else 21):
                self.answered(f"told {kind} {many}", text_of(told(kind, many)))
        for kind in STEP_KINDS:
            for many in range(61):
                self.answered(f"mean {kind} {many}", share_text(mean(kind, many)))
                self.answered(f"spread {kind} {many}", share_text(spread(kind, many)))

    def test_nth(self):
        for kind in STEP_KINDS:
            for many, number, at in (
                (0, 0, 0), (1, 1, 0), (1, 0, 0), (2, 1, 0), (3, 1, 1), (4, 2, 0), (4, 2, 3), (4, 2, 99), (7, 3, 100),
                (10, 4, 5000), (10, 3, 10 ** 6), (10, 10 ** 30 - 1, 0), (10, 3, 10 ** 30 - 1), (9, 10 ** 29, 10 ** 29),
            ):
                found = nth(kind, many, number, at)
                self.answered(f"nth {kind} {many} {number} {at}", "none" if found is None else text_of(found))

    def test_best(self):
        for many in range(1, 41):
            for hands in range(5):
                self.answered(f"best {many} {hands}", share_text(best_share(many, hands)))

    def test_die(self):
        draw = Random(116)
        for sides in list(range(1, 20)) + [60, 61, 10 ** 29, 2 ** 99, 10 ** 30 - 1]:
            for size in (0, 1, 2, 5, 100, 150, 599, 600):
                coins = tuple(draw.randrange(2) for _ in range(size))
                found = die(sides, coins)
                self.answered(f"die {sides} {text_of(coins)}", "none" if found is None else text_of(found))
            for coin in (0, 1):
                found = die(sides, (coin,) * 600)
                self.answered(f"die {sides} {text_of((coin,) * 600)}", "none" if found is None else text_of(found))


class SeveralRows(Answering):
    def test_all_at_once(self):
        found = answers("\n".join(ROWS))
        self.assertEqual(found, tuple(answer for row, answer in RIGHT))
        self.assertEqual(answers("\n".join(ROWS)), found)
        self.assertEqual(answers("\n".join(ROWS[::-1])), found[::-1])
        self.assertEqual(answers("\n".join([ROWS[0]] * 500)), ("2",) * 500)

    def test_the_row_of_the_first_wrong_one(self):
        for wrong in (
            "", " ", "best 0 1", "no", "count rounds", "rounds 0 0", "told longest 9", "\r", "count  rounds 0", "-",
        ):
            for at in range(len(ROWS) + 1):
                rows = ROWS[:at] + [wrong] + ROWS[at:]
                self.refused("\n".join(rows), at)
                self.refused("\n".join(rows + [wrong, ""]), at)
                self.refused("\n".join(ROWS + rows), len(ROWS) + at)

    def test_an_empty_row_is_none(self):
        self.refused("", 0)
        self.refused("\n", 0)
        self.refused("best 1 1\n", 1)
        self.refused("\nbest 1 1", 0)
        self.refused("best 1 1\n\nbest 1 1", 1)
        self.refused("best 1 1\r\nbest 1 1", 0)
        for parting in ("\r", "\x0b", "\x0c", "\x1c", "\x85", "\u2028", "\t", " ", ";"):
            self.refused(f"best 1 1{parting}best 1 1", 0)


class Refused(Answering):
    def test_what_is_no_text(self):
        for thing in wrong_things() + [(), ("best 1 1",), ["best 1 1"], b"best 1 1", {"best 1 1": 0}, 10 ** 5000]:
            self.refused(thing)

    def test_words_that_are_none(self):
        for word in (
            "", "Count", "COUNT", "counts", "coun", "c", "read", "share", "table", "rule", "0", "-", "none",
            "is_order", "whole",
            "ount", "_count", "count\t", "\ufeffcount", "answers",
        ):
            for row in ROWS:
                self.refused(" ".join([word] + row.split(" ")[1:]))
            self.refused(word)

    def test_kinds_that_are_none(self):
        for kind in (
            "", "round", "Rounds", "ROUNDS", "all", "0", "-", "rounds,", "rounds\t", "kind", "KIND", "longest ",
        ):
            self.answers_none("count", [f"{kind} 0", f"{kind} -"])
            self.answers_none("among", [f"{kind} 0", f"{kind} -"])
            for word in ("told", "mean", "spread"):
                self.answers_none(word, [f"{kind} 4"])
            self.answers_none("nth", [f"{kind} 4 1 0"])
        self.answers_none("among", ["longest 0", "longest -", "longest 2 0 1"])
        self.answers_none("mean", ["longest 4", "longest 0"])
        self.answers_none("spread", ["longest 4", "longest 0"])
        self.answers_none("nth", ["longest 4 2 0", "longest 0 0 0"])

    def test_orders_that_are_none(self):
        orders = (
            "", "1", "0 0", "0 2", "00", "0 01", "+0", "-0", "-1", "0 ", " 0", "0  1", "0\t1", "0,1", "(0)", "- 0",
            "0 -", "--", "- ",
            " -", "a", "0 a", "\u0660", "0 \uff11", "0/1", text_of(range(61)), text_of(range(100)), "1" * 40,
            "0 " + "1" * 5000,
        )
        for kind in KINDS:
            self.answers_none("count", [f"{kind} {order}" for order in orders])
            self.answers_none("among", [f"{kind} {order}" for order in orders])
        for word in ("rounds", "throws", "swaps"):
            self.answers_none(word, orders)
        for row in ("count", "count rounds", "among", "among rounds", "rounds", "throws", "swaps"):
            self.refused(row)
            self.refused(row + " ")

    def test_throws_that_are_none(self):
        for word in ("order", "swapped"):
            self.answers_none(word, (
                "", "1", "0 2", "0 1 3", "0 -1", "-0", "00", "0 01", "0 +1", "0 ", " 0", "0  0", "0\t0", "0,0", "--",
                "- 0", "0 -",
                "a", "\u0660", text_of([0] * 61), text_of(range(61)), "0 " + "1" * 5000,
            ))
            self.answered(f"{word} {text_of([0] * 60)}", text_of((order_of if word == "order" else swapped)((0,) * 60)))
            self.refused(word)

    def test_things_at_the_bounds(self):
        for many in (60, 61):
            for word in [f"count {kind}" for kind in KINDS] + ["rounds", "throws", "swaps", "order", "swapped"]:
                row = f"{word} {text_of(range(many))}"
                if many == 60:
                    self.assertEqual(len(answers(row)), 1)
                else:
                    self.refused(row)
        for kind in STEP_KINDS:
            most = 12 if kind == "crossed" else 24
            self.answered(f"among {kind} {text_of(range(most))}", str(place_among(kind, tuple(range(most)))))
            for more in range(most + 1, 62):
                self.refused(f"among {kind} {text_of(range(more))}")

    def test_numbers_at_the_bounds(self):
        for kind in KINDS:
            most = 8 if kind in ("crossed", "longest") else 20
            self.answered(f"told {kind} {most}", text_of(told(kind, most)))
            self.answers_none("told", [f"{kind} {many}" for many in range(most + 1, 30)])
            self.answers_none("told", [f"{kind} {many}" for many in (60, 100, 10 ** 29, 10 ** 30, 10 ** 60, -1)])
        for kind in STEP_KINDS:
            for word in ("mean", "spread"):
                self.assertEqual(len(answers(f"{word} {kind} 60")), 1)
                self.answers_none(word, [f"{kind} {many}" for many in (61, 62, 200, 10 ** 29, 10 ** 30, 10 ** 60, -1)])
            self.assertEqual(len(answers(f"nth {kind} 10 1 0")), 1)
            self.answers_none("nth", [f"{kind} {many} 1 0" for many in (11, 12, 24, 10 ** 29, 10 ** 30, -1)])
            great = "9" * 30
            self.answered(f"nth {kind} 10 {great} {great}", "none")
            self.answers_none("nth", [f"{kind} 10 {great}9 0", f"{kind} 10 1 {great}9", f"{kind} 10 {10 ** 30} 0"])
            self.answers_none("nth", [f"{kind} 10 1 {10 ** 30}", f"{kind} 10 -1 0", f"{kind} 10 1 -1"])
        self.answers_none("best", [
            "0 0", "0 1", "41 1", "40 5", "100 1", "1 10", f"{10 ** 30} 1", f"1 {10 ** 30}", "-1 1", "1 -1",
        ])
        self.assertEqual(len(answers("best 40 4\nbest 1 4\nbest 40 0")), 3)

    def test_dice_at_the_bounds(self):
        self.answered(f"die {'9' * 30} -", "none")
        self.answers_none("die", [
            "0 -", "0 1", f"{10 ** 30} -", f"{10 ** 30} 1 0", f"{10 ** 30 + 1} 1", f"{10 ** 60} 1", "-1 1",
        ])
        self.answers_none("die", [
            "", "6", "6 ", "6 2", "6 0 2", "6 -1", "6 00", "6 01", "6 1 ", "6 1  0", "6  1", "6 1,0", "6 10", "6 +1",
            "6 - 1",
            "6 1 -", "6 --", "06 1", "+6 1", "a 1", "- 1", " 6 1", "6 \u0661", "\u0666 1", "6 True", "6 1\t0",
        ])
        coins = text_of((0, 1) * 300)
        self.answered(f"die 6 {coins}", text_of(die(6, (0, 1) * 300)))
        self.refused(f"die 6 {coins} 0")
        self.refused(f"die 1 {coins} 0")
        self.answered(f"die 1 {coins}", "0 0")

    def test_numbers_not_written_so(self):
        for wrong in (
            "", "04", "00", "+4", "-0", "4.0", "4/1", "0x4", "4_0", "four", "\u0664", "\uff14", "\u00b2", "4\t", "-",
            "none",
        ):
            self.answers_none("told", [f"rounds {wrong}", f"rounds {wrong} ", f"rounds  {wrong}"])
            self.answers_none("mean", [f"rounds {wrong}", f"rounds 4 {wrong}"])
            self.answers_none("spread", [f"rounds {wrong}", f"rounds 4 {wrong}"])
            self.answers_none("nth", [f"rounds {wrong} 1 0", f"rounds 4 {wrong} 0", f"rounds 4 1 {wrong}"])
            self.answers_none("nth", [f"rounds {wrong}", f"rounds 4 {wrong}", f"rounds 4 1 0 {wrong}"])
            self.answers_none("best", [f"{wrong} 1", f"4 {wrong}", f"4 1 {wrong}", wrong])

    def test_too_few_words_and_too_many(self):
        for row in ROWS:
            words = row.split(" ")
            self.refused(row + " ")
            self.refused(" " + row)
            self.refused(row.replace(" ", "  ", 1))
            self.refused(row.replace(" ", "\t"))
            self.refused(row + " x")
            self.refused(row + " 99")
            self.refused(words[0])
        for row in (
            "told rounds 4 4", "mean rounds 4 4", "spread rises 4 4", "nth rounds 4 1", "nth rounds 4", "nth rounds",
        ):
            self.refused(row)
        for row in ("nth rounds 4 1 0 0", "best 4", "best 4 1 1", "best", "die", "told", "told rounds", "mean", "nth"):
            self.refused(row)

    def test_one_sign_otherwise_is_answered_or_refused(self):
        seen = [0, 0]
        for row in ROWS:
            for at in range(len(row) + 1):
                for sign in ("", "0", "1", "9", " ", "-", "\n", "\t", "a", "\u0661", "\ud800", "\x00"):
                    for text in (row[:at] + sign + row[at:], row[:at] + sign + row[at + 1:]):
                        try:
                            found = answers(text)
                            self.assertEqual(len(found), text.count("\n") + 1)
                            seen[0] += 1
                        except NoRow as error:
                            self.assertLessEqual(error.row, text.count("\n"))
                            seen[1] += 1
        self.assertGreater(seen[0], 200)
        self.assertGreater(seen[1], 5000)

    def test_nothing_is_changed(self):
        things = [["best 1 1"], ("best 1 1", [0]), {0: ["best"]}]
        kept = repr(things)
        for thing in things + [things]:
            self.refused(thing)
            self.refused(thing)
        self.assertEqual(repr(things), kept)


if __name__ == "__main__":
    unittest.main()
