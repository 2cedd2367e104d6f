import unittest
from fractions import Fraction
from itertools import product
from random import Random

from shuffletold.errors import NoText, OrderError
from shuffletold.rounds import rounds_of
from shuffletold.texts import read_order, read_rounds, read_share, show_order, show_rounds, show_share
from tests.helper import (
    as_share, drawn_orders, is_told_order, is_told_share, long_orders, orders_to, stepped, wrong_things
)

READERS = (read_order, read_rounds, read_share)
SHORT = [order for order in long_orders() if len(order) <= 60]
LONG = [order for order in long_orders() if len(order) > 60] + drawn_orders(102, (61, 61, 64, 70, 100))
DRAWN = drawn_orders(101, list(range(1, 61)))
# Arabic and full-width figures, figures above the line, and kinds of blanks and of signs that look like others.
ODD_SIGNS = (
    "\u0660\u0663\uff11\u00b2\u2460\u00a0\u2003\u2212\u2013\u2044\ud800\u2028"
    "\x00\x0b\x0c\x1c\x85\r\t\n+_.,;*'\"[{"
)


def order_text(order):
    return " ".join(f"{number}" for number in order) or "-"


def rounds_text(order):
    """The rounds of order, found by going round from each number that wasn't met."""
    found, met = "", set()
    for first in range(len(order)):
        if first not in met:
            turn = [first]
            while order[turn[-1]] != first:
                turn.append(order[turn[-1]])
            met.update(turn)
            found += "(" + " ".join(map(str, turn)) + ")"
    return found or "-"


def one_sign_otherwise(text, signs):
    """The text with each of signs put in anywhere, or in the place of any sign, and with any sign left out."""
    for at in range(len(text) + 1):
        for sign in signs:
            yield text[:at] + sign + text[at:]
            yield text[:at] + sign + text[at + 1:]
        yield text[:at] + text[at + 1:]
        yield text[:at] + text[at:at + 2][::-1] + text[at + 2:]


class Refusing(unittest.TestCase):
    def refused(self, reader, thing):
        with self.assertRaises(NoText) as caught:
            reader(thing)
        self.assertIs(type(caught.exception), NoText)
        self.assertIsInstance(caught.exception, OrderError)

    def read_or_refused(self, reader, shower, text):
        """Whatever is read is written just so; whether it was read."""
        try:
            found = reader(text)
        except NoText as error:
            self.assertIs(type(error), NoText)
            return False
        self.assertEqual(shower(found), text)
        return True


class Orders(Refusing):
    def test_plain_ones(self):
        self.assertEqual(show_order(()), "-")
        self.assertEqual(show_order((0,)), "0")
        self.assertEqual(show_order((2, 0, 1, 3)), "2 0 1 3")
        self.assertEqual(read_order("-"), ())
        self.assertEqual(read_order("2 0 1 3"), (2, 0, 1, 3))

    def test_written_and_read_back(self):
        for order in orders_to(6) + SHORT + DRAWN:
            text = show_order(order)
            self.assertIs(type(text), str)
            self.assertEqual(text, order_text(order))
            back = read_order(text)
            self.assertTrue(is_told_order(back))
            self.assertEqual(back, order)
            self.assertEqual((show_order(order), read_order(text)), (text, back))

    def test_longer_ones_are_written_and_not_read(self):
        for order in LONG:
            self.assertEqual(show_order(order), order_text(order))
            self.refused(read_order, order_text(order))
        self.assertEqual(read_order(order_text(stepped(60, 7, 0))), stepped(60, 7, 0))
        self.refused(read_order, order_text(stepped(61, 7, 0)))

    def test_all_short_texts(self):
        right = {order_text(order) for order in orders_to(4)}
        read = 0
        for size in range(6):
            for signs in product("012- (/\n", repeat=size):
                text = "".join(signs)
                if text in right:
                    self.assertEqual(order_text(read_order(text)), text)
                    read += 1
                else:
                    self.refused(read_order, text)
        self.assertEqual(read, 1 + 1 + 2 + 6)

    def test_wrong_texts(self):
        for text in (
            "", " ", "--", "- ", " -", "-\n", "\n-", "0 ", " 0", "0\n", "\n0", "0\t1", "0  1", "0\n1", "00", "00 1",
            "01 0",
            "0 01", "+0", "-0", "0 +1", "0 -1", "1", "0 2", "0 0", "1 2", "0,1", "(0)", "(0 1)", "0/1", "0 1 -", "- 0",
            "0x0",
            "0.0", "zero", "None", "()", "0 1 2 3 4 5 6 7 8 9 11", "\u0660", "\uff10", "0 \u0661", "\u00b2",
            "0\u00a01", "0_0",
            "9" * 5000, "0 " + "1" * 5000, "0 1 " * 100, "0\r", "\ufeff0", "0\x00", "\ud800", "1e0",
        ):
            self.refused(read_order, text)

    def test_one_sign_otherwise(self):
        for order in ((), (0,), (1, 0), (2, 0, 1, 3), stepped(11, 7, 4)):
            text = order_text(order)
            for other in one_sign_otherwise(text, "0123456789 -()/" + ODD_SIGNS):
                if other != text:
                    self.read_or_refused(read_order, order_text, other)
            for sign in ODD_SIGNS:
                for at in range(len(text) + 1):
                    self.refused(read_order, text[:at] + sign + text[at:])


class Rounds(Refusing):
    def test_plain_ones(self):
        self.assertEqual(show_rounds(()), "-")
        self.assertEqual(show_rounds((0,)), "(0)")
        self.assertEqual(show_rounds((2, 0, 1, 3)), "(0 2 1)(3)")
        self.assertEqual(read_rounds("-"), ())
        self.assertEqual(read_rounds("(0 2 1)(3)"), (2, 0, 1, 3))

    def test_written_and_read_back(self):
        for order in orders_to(6) + SHORT + DRAWN:
            text = show_rounds(order)
            self.assertIs(type(text), str)
            self.assertEqual(text, rounds_text(order))
            back = read_rounds(text)
            self.assertTrue(is_told_order(back))
            self.assertEqual(back, order)
            self.assertEqual(rounds_of(back), rounds_of(order))
            self.assertEqual((show_rounds(order), read_rounds(text)), (text, back))

    def test_longer_ones_are_written_and_not_read(self):
        for order in LONG:
            self.assertEqual(show_rounds(order), rounds_text(order))
            self.refused(read_rounds, rounds_text(order))

    def test_all_short_texts(self):
        right = {rounds_text(order) for order in orders_to(4)}
        read = 0
        for size in range(8):
            for signs in product("012 ()-" if size < 6 else "01 ()", repeat=size):
                text = "".join(signs)
                if text in right:
                    self.assertEqual(rounds_text(read_rounds(text)), text)
                    read += 1
                else:
                    self.refused(read_rounds, text)
        # -, (0), (0 1), (0)(1)
        self.assertEqual(read, 4)

    def test_wrong_texts(self):
        for text in (
            "", " ", "()", "(-)", "(0)(-)", "(-)(0)", "0", "0 1", "(0", "0)", "((0))", "(0))", "((0)", "(0) (1)",
            " (0)", "(0) ",
            "(0)\n", "\n(0)", "(0 )", "( 0)", "(0  1)", "(0\t1)", "(0,1)", "(1 0)", "(1)(0)", "(0)(2)", "(1)",
            "(0)(0)", "(0 0)",
            "(0 2)(1)(1)", "(1)(0 2)", "(0 2)(3)(1)", "(2 0 1)", "(1 2 0)(3)", "(00)", "(0)(01)", "(+0)", "(-0)",
            "(0)()",
            "()(0)", "(0)-", "-(0)", "--", "[0]", "{0}", "(0][1)", "(\u0660)", "(0)(\u0661)", "(0)\x00", "(", ")",
            ")(", "(0)(1",
            "x0)", "(0x", "10)", "(0 1)(", "(" + "9" * 5000 + ")", "(0)" * 100,
        ):
            self.refused(read_rounds, text)

    def test_other_ways_to_write_the_same_rounds(self):
        for order in orders_to(4) + DRAWN[:12]:
            rounds = rounds_of(order)
            for at, found in enumerate(rounds):
                for cut in range(1, len(found)):
                    turned = rounds[:at] + (found[cut:] + found[:cut],) + rounds[at + 1:]
                    self.refused(read_rounds, "".join("(" + order_text(row) + ")" for row in turned))
                exchanged = rounds[:at] + rounds[at:at + 2][::-1] + rounds[at + 2:]
                if exchanged != rounds:
                    self.refused(read_rounds, "".join("(" + order_text(row) + ")" for row in exchanged))

    def test_one_sign_otherwise(self):
        for order in ((), (0,), (1, 0), (2, 0, 1, 3), stepped(11, 7, 4)):
            text = rounds_text(order)
            for other in one_sign_otherwise(text, "0123456789 -()/" + ODD_SIGNS):
                if other != text:
                    self.read_or_refused(read_rounds, rounds_text, other)
            for sign in ODD_SIGNS:
                for at in range(len(text) + 1):
                    self.refused(read_rounds, text[:at] + sign + text[at:])


class Shares(Refusing):
    def test_plain_ones(self):
        for share, text in (
            ((0, 1), "0/1"), ((1, 1), "1/1"), ((1, 2), "1/2"), ((-1, 2), "-1/2"), ((25, 12), "25/12"), ((-7, 12),
            "-7/12"),
            ((10, 1), "10/1"), ((1, 10 ** 30), "1/1" + "0" * 30), ((-10 ** 30, 7), "-1" + "0" * 30 + "/7"),
        ):
            self.assertEqual(show_share(share), text)
            self.assertEqual(read_share(text), share)

    def test_written_and_read_back(self):
        draw = Random(103)
        shares = {as_share(Fraction(over, under)) for over in range(-30, 31) for under in range(1, 31)}
        shares |= {
            as_share(Fraction(draw.randrange(-10 ** over, 10 ** over), draw.randrange(1, 10 ** under)))
            for over in range(1, 250, 7) for under in range(1, 250, 7)
        }
        for share in sorted(shares):
            text = show_share(share)
            self.assertIs(type(text), str)
            self.assertEqual(text, f"{share[0]}/{share[1]}")
            back = read_share(text)
            self.assertTrue(is_told_share(back))
            self.assertEqual(back, share)
            self.assertEqual((show_share(share), read_share(text)), (text, back))

    def test_figures_at_and_around_where_pieces_end(self):
        for figures in list(range(50, 70)) + list(range(115, 125)) + [179, 180, 181, 240, 600, 601, 4299, 4300]:
            for number in (
                10 ** figures - 1, 10 ** figures, 10 ** figures + 1, 10 ** (figures - 1) + 10 ** (figures // 2),
            ):
                if figures < 4300:
                    self.assertEqual(show_share((number, 1)), f"{number}/1")
                    self.assertEqual(show_share((-1, number)), f"-1/{number}")
                self.assertEqual(read_share(show_share((number, 1))), (number, 1))
                self.assertEqual(read_share(show_share((-1, number))), (-1, number))

    def test_more_figures_than_python_itself_writes(self):
        for figures in (4301, 5000, 12345, 60000):
            number = 10 ** figures
            text = "1" + "0" * figures
            self.assertTrue(show_share((number, 1)) == text + "/1")
            self.assertTrue(show_share((-number, 7)) == "-" + text + "/7")
            self.assertTrue(show_share((1, number - 1)) == "1/" + "9" * figures)
            self.assertTrue(read_share(text + "/1") == (number, 1))
            self.assertTrue(read_share("-" + text + "/7") == (-number, 7))
            self.assertTrue(read_share("1/" + "9" * figures) == (1, number - 1))
            self.refused(read_share, text + "/10")
            self.refused(read_share, "0" + text + "/7")
            self.refused(read_share, text + "/-7")
            self.refused(read_share, "7/" + text + " ")

    def test_all_short_texts(self):
        right = {
            f"{over}/{under}": (over, under) for over in range(-2222, 2223) for under in range(1, 2223)
            if len(f"{over}/{under}") < 7 and as_share(Fraction(over, under)) == (over, under)
            and set(f"{over}{under}") <= set("-012")
        }
        read = 0
        for size in range(7):
            for signs in product("012-/ " if size < 6 else "012-/", repeat=size):
                text = "".join(signs)
                if text in right:
                    self.assertEqual(read_share(text), right[text])
                    read += 1
                else:
                    self.refused(read_share, text)
        self.assertEqual(read, len(right))

    def test_wrong_texts(self):
        for text in (
            "", "/", "1", "1/", "/1", "-", "-/1", "0/2", "2/2", "2/4", "-2/4", "0/0", "1/0", "-1/0", "1/-1", "-1/-1",
            "-0/1",
            "+1/2", "1/+2", "--1/2", "01/2", "1/02", "00/1", "-01/2", " 1/2", "1/2 ", "1 /2", "1/ 2", "- 1/2", "1/2\n",
            "\n1/2",
            "1\n/2", "1//2", "1/2/3", "1/2/", "1:2", "1\\2", "0.5", "1", "0", "1/2.0", "1e1/3", "0x1/2", "1_0/3",
            "\u0661/2",
            "1/\u0662", "\u00bd", "1\u20442", "\u22121/2", "\uff11/2", "1/2\x00", "\t1/2", "10/5", "6/4", "(1, 2)",
            "nan/1",
        ):
            self.refused(read_share, text)

    def test_one_sign_otherwise(self):
        for text in ("0/1", "-1/2", "25/12", "-1000/7"):
            for other in one_sign_otherwise(text, "0123456789 -()/" + ODD_SIGNS):
                self.read_or_refused(read_share, lambda share: f"{share[0]}/{share[1]}", other)
            for sign in ODD_SIGNS:
                for at in range(len(text) + 1):
                    self.refused(read_share, text[:at] + sign + text[at:])


class OfAnything(Refusing):
    def test_what_is_no_text(self):
        for thing in wrong_things() + [
            (), ("-",), ("0",), ["0"], b"0", b"-", b"(0)", b"0/1", {"-": "-"}, (0, 1), 10 ** 5000,
        ]:
            if type(thing) is not str:
                for reader in READERS:
                    self.refused(reader, thing)

    def test_texts_among_wrong_things(self):
        for thing in wrong_things():
            if type(thing) is str:
                self.assertEqual(self.read_or_refused(read_order, order_text, thing), thing in ("0", "-"))
                self.assertEqual(self.read_or_refused(read_rounds, rounds_text, thing), thing == "-")
                self.refused(read_share, thing)

    def test_very_long_texts(self):
        for text in (
            "0" * 10 ** 6, "1" * 10 ** 6, "0 " * 10 ** 5, "(" * 10 ** 6, "(0)" * 10 ** 5, "-" * 10 ** 6, " " * 10 ** 6,
        ):
            for reader in READERS:
                self.refused(reader, text)

    def test_nothing_is_changed(self):
        things = [["0"], ("0", ["1"]), {"0": ["1"]}]
        kept = repr(things)
        for reader in READERS:
            for thing in things + [things]:
                self.refused(reader, thing)
        self.assertEqual(repr(things), kept)


if __name__ == "__main__":
    unittest.main()
