import unittest
from itertools import combinations, permutations, product
from random import Random

from shuffletold.counts import count
from shuffletold.rows import longest_row, shows_longest
from tests.helper import (
    drawn_orders, is_told, long_orders, nested, orders_of, orders_to, otherwise, wrong_things
)

WRONGS = (
    -1, -2, -10 ** 40, 10 ** 40, True, False, "0", "", b"", b"\x00", None, (), (0,), [], [0], {}, {0: 0}, set(), "a",
    nested(56, lambda inner: (inner,), 0), nested(56, lambda inner: [inner], 0),
)


def is_row(order, thing, sign):
    """Whether thing is a tuple of places of order, rising, at which the numbers, by this sign, rise."""
    if type(thing) is not tuple or any(type(place) is not int for place in thing):
        return False
    if any(place not in range(len(order)) for place in thing):
        return False
    pairs = list(zip(thing, thing[1:]))
    return all(one < other and sign * order[one] < sign * order[other] for one, other in pairs)


def is_shown(order, thing):
    """Whether thing shows a longest row of order, by the document's words."""
    if type(thing) is not tuple or len(thing) != 2:
        return False
    row, falls = thing
    if not is_row(order, row, 1) or type(falls) is not tuple or len(falls) != len(row):
        return False
    if not all(is_row(order, fall, -1) and fall != () for fall in falls):
        return False
    return sorted(sum(falls, ())) == list(range(len(order)))


def longest_rows(order):
    """All rising rows of order that are as long as can be."""
    for size in range(len(order), -1, -1):
        rows = [row for row in combinations(range(len(order)), size) if is_row(order, row, 1)]
        if rows:
            return rows


def parted(many):
    """All ways to part the places below many into tuples, each rising, by their first places."""
    found = [()]
    for place in range(many):
        found = [
            parts[:at] + (parts[at] + (place,),) + parts[at + 1:] if at < len(parts) else parts + ((place,),)
            for parts in found for at in range(len(parts) + 1)
        ]
    return found


def from_behind(order):
    """A right pair made of the order turned about: another one than that of the program, as a rule."""
    last = len(order) - 1
    row, falls = longest_row(tuple(last - number for number in order[::-1]))
    back = tuple(tuple(last - place for place in fall[::-1]) for fall in falls)
    return tuple(last - place for place in row[::-1]), back


LONG = long_orders() + drawn_orders(51, (7, 8, 10, 20, 33, 59, 60, 60, 60, 61, 66))


class LongestRow(unittest.TestCase):
    def test_plain_ones(self):
        self.assertEqual(longest_row(()), ((), ()))
        self.assertEqual(longest_row((0,)), ((0,), ((0,),)))
        self.assertEqual(longest_row((0, 1)), ((0, 1), ((0,), (1,))))
        self.assertEqual(longest_row((2, 1, 0))[1], ((0, 1, 2),))
        self.assertEqual(longest_row((2, 0, 1, 3))[0], (1, 2, 3))

    def check(self, order):
        found = longest_row(order)
        self.assertTrue(is_told(found))
        self.assertTrue(is_shown(order, found), (order, found))
        self.assertIs(shows_longest(order, found), True)
        self.assertEqual(len(found[0]), count("longest", order))
        self.assertEqual(longest_row(order), found)

    def test_all_orders_of_few(self):
        for order in orders_to(6):
            self.check(order)
            self.assertIn(longest_row(order)[0], longest_rows(order))

    def test_long_orders(self):
        for order in LONG:
            self.check(order)

    def test_nothing_is_changed(self):
        order = (3, 0, 4, 1, 2)
        pair = longest_row(order)
        kept = (tuple(list(order)), (tuple(list(pair[0])), tuple(tuple(list(fall)) for fall in pair[1])))
        shows_longest(order, pair)
        self.assertEqual((order, pair), kept)


class ShowsLongest(unittest.TestCase):
    def test_plain_ones(self):
        order = (2, 0, 1, 3)
        for thing in (
            ((1, 2, 3), ((0, 1), (2,), (3,))), ((1, 2, 3), ((0, 2), (1,), (3,))), ((1, 2, 3), ((3,), (1,), (0, 2)))
        ):
            self.assertIs(shows_longest(order, thing), True, thing)
        for thing in (
            ((1, 2), ((0, 1), (2,), (3,))), ((0, 3), ((0, 1), (2,), (3,))), ((0, 1, 3), ((0, 1), (2,), (3,))),
            ((1, 2, 3), ((1, 0), (2,), (3,))), ((1, 2, 3), ((0, 1), (2, 3), ())), ((1, 2, 3), ((0, 1), (2,))),
            ((1, 2, 3), ((0, 1), (2,), (3,), ())), ((1, 2, 3), ((0, 1), (1, 2), (3,))), ((1, 2, 3), ((0, 1, 2), (3,))),
            ((3, 2, 1), ((0, 1), (2,), (3,))), ((1, 2, 3),), ((1, 2, 3), ((0, 1), (2,), (3,)), ()), ((), ()), (), None,
        ):
            self.assertIs(shows_longest(order, thing), False, thing)

    def test_of_none(self):
        self.assertIs(shows_longest((), ((), ())), True)
        for thing in ((), ((),), ((), (), ()), ([], ()), ((), []), [(), ()], ((), ((),)), ((0,), ((0,),)), None, "", 0):
            self.assertIs(shows_longest((), thing), False, thing)

    def test_of_one(self):
        for number in range(-2, 3):
            for other in range(-2, 3):
                self.assertIs(shows_longest((0,), ((number,), ((other,),))), number == other == 0)
        for thing in (((False,), ((0,),)), ((0,), ((False,),)), ((0,), (0,)), ((), ()), ((0,), ()), ((), ((0,),))):
            self.assertIs(shows_longest((0,), thing), False, thing)

    def test_all_pairs_of_small_tuples(self):
        for many in range(3):
            rows = [row for size in range(3) for row in product(range(-1, many + 1), repeat=size)]
            pairs = [(row, falls) for row in rows for size in range(3) for falls in product(rows, repeat=size)]
            for order in orders_of(many):
                for pair in pairs:
                    self.assertIs(shows_longest(order, pair), is_shown(order, pair), (order, pair))

    def test_all_right_pairs_by_another_hand_and_all_that_are_not(self):
        for many in range(5):
            rows = [row for size in range(many + 1) for row in combinations(range(many), size)]
            for order in orders_of(many):
                longest = longest_rows(order)
                for falls in parted(many):
                    falling = all(is_row(order, fall, -1) for fall in falls)
                    for row in rows:
                        right = row in longest and falling and len(falls) == len(row)
                        self.assertIs(shows_longest(order, (row, falls)), right, (order, row, falls))
                        if right:
                            for turned in permutations(falls):
                                self.assertIs(shows_longest(order, (row, turned)), True, (order, row, turned))

    def test_each_longest_row_of_few(self):
        for order in orders_of(6):
            falls = longest_row(order)[1]
            for row in longest_rows(order):
                self.assertIs(shows_longest(order, (row, falls)), True)
                self.assertIs(shows_longest(order, (row[1:], falls)), False)
                self.assertIs(shows_longest(order, (row[1:], falls[1:])), False)

    def test_long_ones_from_behind_and_with_falls_exchanged(self):
        draw = Random(52)
        for order in LONG:
            row, falls = from_behind(order)
            self.assertTrue(is_shown(order, (row, falls)))
            self.assertIs(shows_longest(order, (row, falls)), True)
            self.assertIs(shows_longest(order, (longest_row(order)[0], falls)), True)
            mixed = list(falls)
            draw.shuffle(mixed)
            self.assertIs(shows_longest(order, (row, tuple(mixed))), True)
            self.assertIs(shows_longest(order, (row, falls[::-1])), True)

    def wrong_pairs(self, order, row, falls):
        """A right pair with one thing otherwise, each a wrong one but where it happens to be right still."""
        places = range(-1, len(order) + 1)
        yield from ((other, falls) for other in otherwise(row, WRONGS + tuple(places)))
        for at in range(len(row)):
            yield row[:at] + row[at + 1:], falls
            yield row[:at] + (row[at],) + row[at:], falls
            yield row[:at] + (row[at] + 1,) + row[at:], falls
            yield row[:at] + row[at:at + 2][::-1] + row[at + 2:], falls
        for at, fall in enumerate(falls):
            before, behind = falls[:at], falls[at + 1:]
            yield row, before + behind
            yield row, before + (fall, fall) + behind
            yield row, before + (fall, ()) + behind
            yield row, before + ((),) + behind
            yield row, before + (fall[::-1],) + behind
            yield row, before + (list(fall),) + behind
            yield from ((row, before + (wrong,) + behind) for wrong in WRONGS)
            yield from ((row, before + (other,) + behind) for other in otherwise(fall, WRONGS + tuple(places)))
            for cut in range(len(fall) + 1):
                yield row, before + (fall[:cut], fall[cut:]) + behind
                yield row, before + (fall[:cut] + fall[cut + 1:],) + behind
                yield row, before + (fall[:cut] + fall[cut:cut + 1] * 2 + fall[cut + 1:],) + behind
                yield row, before + (fall[:cut] + fall[cut:cut + 2][::-1] + fall[cut + 2:],) + behind
                yield from ((row, before + (fall[:cut] + (place,) + fall[cut:],) + behind) for place in places)
            if behind:
                yield row, before + (fall + behind[0],) + behind[1:]
                yield row, before + (tuple(sorted(fall + behind[0])),) + behind[1:]
                yield row, before + (fall + behind[0][:1], behind[0][1:]) + behind[1:]
        yield row, list(falls)
        yield list(row), falls
        yield (row, falls, ())
        yield (row,)
        yield falls, row
        yield [row, falls]
        yield from ((row, wrong) for wrong in WRONGS)
        yield from ((wrong, falls) for wrong in WRONGS)

    def test_one_thing_otherwise_of_few(self):
        for order in orders_to(4) + orders_of(5)[::5] + orders_of(6)[::50]:
            for pair in (longest_row(order), from_behind(order)):
                for thing in self.wrong_pairs(order, *pair):
                    self.assertIs(shows_longest(order, thing), is_shown(order, thing), (order, thing))

    def test_one_thing_otherwise_of_many(self):
        for order in drawn_orders(53, (20, 33)):
            right = 0
            for thing in self.wrong_pairs(order, *longest_row(order)):
                self.assertIs(shows_longest(order, thing), is_shown(order, thing), (order, thing))
                right += is_shown(order, thing)
            # Nearly all of them are wrong: else the test would tell little.
            self.assertLess(right, 200)

    def test_one_place_otherwise_at_the_bound(self):
        for order in drawn_orders(54, (60, 63)):
            row, falls = longest_row(order)
            for at in range(len(falls)):
                for wrong in otherwise(falls[at], (-1, len(order), True, None, "0", (), [0], falls[at - 1][0])):
                    self.assertIs(shows_longest(order, (row, falls[:at] + (wrong,) + falls[at + 1:])), False)
            for wrong in otherwise(row, (-1, len(order), True, None, "0", (), [0])):
                self.assertIs(shows_longest(order, (wrong, falls)), False)

    def test_truths_for_none_and_one(self):
        self.assertIs(shows_longest((0, 1), ((0, 1), ((0,), (1,)))), True)
        for thing in (
            ((False, 1), ((0,), (1,))), ((0, True), ((0,), (1,))),
            ((0, 1), ((False,), (1,))), ((0, 1), ((0,), (True,))),
        ):
            self.assertIs(shows_longest((0, 1), thing), False, thing)

    def test_of_things_of_every_kind(self):
        for order in ((), (0,), (1, 0), (0, 1), (2, 0, 1), LONG[-1]):
            row, falls = longest_row(order)
            for thing in wrong_things() + [()]:
                self.assertIs(shows_longest(order, thing), False, thing)
            for thing in wrong_things()[::3] + [()]:
                for pair in ((thing, falls), (row, thing), (thing, thing), (row, (thing,)), (row, falls, thing)):
                    self.assertIs(shows_longest(order, pair), is_shown(order, pair), pair)

    def test_of_large_things(self):
        large = tuple(range(20000))
        for thing in (large, (large, large), (large, (large,)), ((0,), (large,)), ((0,), tuple((at,) for at in large))):
            self.assertIs(shows_longest((1, 0), thing), False)

    def test_nothing_is_changed_and_the_same_is_told_again(self):
        fall = [0, 1]
        thing = ((0,), (fall,))
        for _ in range(2):
            self.assertIs(shows_longest((1, 0), thing), False)
            self.assertEqual((thing, fall), (((0,), ([0, 1],)), [0, 1]))
        for _ in range(2):
            self.assertIs(shows_longest((1, 0), ((0,), ((0, 1),))), True)


if __name__ == "__main__":
    unittest.main()
