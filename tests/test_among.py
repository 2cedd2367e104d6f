import unittest
from collections import Counter
from itertools import permutations
from math import factorial
from random import Random

from shuffletold.among import nth, place_among, ways_on
from shuffletold.counts import count
from shuffletold.told import told
from tests.helper import STEP_KINDS, drawn_orders, is_told_order, orders_of, orders_to

# At each kind's bound, and somewhat beyond it.
FAR = {kind: (23, 24, 25, 28) for kind in STEP_KINDS} | {"crossed": (11, 12, 13, 15)}


def greatest(kind, many):
    """The greatest count that an order of so many has."""
    if kind == "crossed":
        return many * (many - 1) // 2
    return max(many - 1, 0) if kind == "rises" else many


def begun_by(kind, many):
    """How many orders of so many have each beginning and count, by all of them one by one."""
    found = Counter()
    for order in orders_of(many):
        number = count(kind, order)
        found.update((order[:length], number) for length in range(many + 1))
    return found


class WaysOn(unittest.TestCase):
    def test_plain_ones(self):
        self.assertEqual(ways_on("rounds", 3, (1,), 1), 1)
        self.assertEqual(ways_on("rounds", 3, (1,), 2), 1)
        self.assertEqual(ways_on("stays", 4, (1,), 0), 3)
        self.assertEqual(ways_on("stays", 4, (0,), 1), 2)
        self.assertEqual(ways_on("rises", 4, (2,), 1), 4)
        self.assertEqual(ways_on("highs", 4, (1, 0), 2), 1)
        self.assertEqual(ways_on("highs", 4, (3,), 1), 6)
        self.assertEqual(ways_on("crossed", 4, (2,), 3), 2)

    def test_of_none_and_of_one(self):
        for kind in STEP_KINDS:
            self.assertEqual([ways_on(kind, 0, (), number) for number in range(3)], [1, 0, 0])
            had = [1, 0, 0] if kind in ("rises", "crossed") else [0, 1, 0]
            for begun in ((), (0,)):
                self.assertEqual([ways_on(kind, 1, begun, number) for number in range(3)], had)

    def test_every_beginning_of_few_by_all_orders(self):
        for kind in STEP_KINDS:
            for many in range(7):
                found = begun_by(kind, many)
                for length in range(many + 1):
                    for begun in permutations(range(many), length):
                        for number in range(greatest(kind, many) + 3):
                            self.assertEqual(
                                ways_on(kind, many, begun, number), found[begun, number], (kind, many, begun, number)
                            )

    def test_of_no_beginning_as_told(self):
        for kind in STEP_KINDS:
            for many in tuple(range(12)) + FAR[kind]:
                row = told(kind, many)
                self.assertEqual([ways_on(kind, many, (), number) for number in range(len(row))], list(row))
                for number in (len(row), len(row) + 1, 10 ** 40):
                    self.assertEqual(ways_on(kind, many, (), number), 0)

    def test_of_a_whole_order_one_or_none(self):
        for kind in STEP_KINDS:
            for many in FAR[kind]:
                for order in drawn_orders(many, (many,) * 10) + [tuple(range(many)), tuple(range(many))[::-1]]:
                    own = count(kind, order)
                    for number in (0, 1, own - 1, own + 1, 10 ** 40):
                        if number >= 0:
                            self.assertEqual(ways_on(kind, many, order, number), int(number == own))
                    self.assertEqual(ways_on(kind, many, order, own), 1)

    def test_at_the_bounds_with_few_left_by_all_ends(self):
        for kind in STEP_KINDS:
            for many in FAR[kind]:
                for at, order in enumerate(drawn_orders(many + 1, (many,) * 8)):
                    begun = order[:many - 1 - at % 5]
                    found = Counter(count(kind, begun + end) for end in permutations(order[len(begun):]))
                    for number in range(greatest(kind, many) + 2):
                        self.assertEqual(ways_on(kind, many, begun, number), found[number], (kind, begun, number))

    def test_at_the_bounds_by_all_numbers_that_may_come_next(self):
        for kind in STEP_KINDS:
            for many in FAR[kind]:
                for at, order in enumerate(drawn_orders(many + 2, (many,) * 3)):
                    for length in range(at, many, 6):
                        begun, left = order[:length], order[length:]
                        ways = [ways_on(kind, many, begun, number) for number in range(greatest(kind, many) + 1)]
                        self.assertEqual(sum(ways), factorial(many - length))
                        for number in range(0, len(ways), 3):
                            longer = [ways_on(kind, many, begun + (behind,), number) for behind in left]
                            self.assertEqual(sum(longer), ways[number], (kind, begun, number))

    def test_nothing_is_changed_and_the_same_is_told_again(self):
        for kind in STEP_KINDS:
            begun = (3, 0, 5)
            first = ways_on(kind, 7, begun, 3)
            self.assertIs(type(first), int)
            self.assertEqual(begun, (3, 0, 5))
            ways_on(kind, 8, begun, 3)
            self.assertEqual(ways_on(kind, 7, begun, 3), first)


class NthAndPlaceAmong(unittest.TestCase):
    def test_plain_ones(self):
        self.assertEqual([nth("rounds", 3, 2, at) for at in range(4)], [(0, 2, 1), (1, 0, 2), (2, 1, 0), None])
        self.assertEqual([nth("stays", 3, 0, at) for at in range(3)], [(1, 2, 0), (2, 0, 1), None])
        self.assertEqual([nth("rises", 3, 0, at) for at in range(2)], [(2, 1, 0), None])
        self.assertEqual([nth("highs", 3, 1, at) for at in range(3)], [(2, 0, 1), (2, 1, 0), None])
        self.assertEqual([nth("crossed", 3, 2, at) for at in range(3)], [(1, 2, 0), (2, 0, 1), None])
        self.assertEqual(place_among("crossed", (2, 0, 1)), 1)

    def test_of_none_and_of_one(self):
        for kind in STEP_KINDS:
            self.assertEqual([nth(kind, 0, 0, at) for at in range(2)], [(), None])
            self.assertEqual([nth(kind, 0, 1, at) for at in range(2)], [None, None])
            own = 0 if kind in ("rises", "crossed") else 1
            self.assertEqual([nth(kind, 1, own, at) for at in range(2)], [(0,), None])
            self.assertIsNone(nth(kind, 1, 1 - own, 0))
            self.assertEqual((place_among(kind, ()), place_among(kind, (0,))), (0, 0))

    def test_all_of_few_listed(self):
        for kind in STEP_KINDS:
            for many in range(7):
                orders = orders_of(many)
                counts = [count(kind, order) for order in orders]
                for number in range(greatest(kind, many) + 3):
                    listed = [order for order, own in zip(orders, counts) if own == number]
                    self.assertEqual([nth(kind, many, number, at) for at in range(len(listed))], listed)
                    self.assertEqual([place_among(kind, order) for order in listed], list(range(len(listed))))
                    for at in (len(listed), len(listed) + 1, factorial(many), 10 ** 60):
                        self.assertIsNone(nth(kind, many, number, at))

    def check(self, kind, many, number, asked):
        """The orders of these numbers, rising, among those of the count."""
        found = [nth(kind, many, number, at) for at in asked]
        for at, order in zip(asked, found):
            self.assertTrue(is_told_order(order))
            self.assertEqual(sorted(order), list(range(many)))
            self.assertEqual(count(kind, order), number, (kind, order))
            self.assertEqual(place_among(kind, order), at, (kind, order))
        self.assertEqual(found, sorted(set(found)))
        return found

    def test_at_the_bounds_back_and_forth(self):
        draw = Random(11)
        for kind in STEP_KINDS:
            for many in FAR[kind]:
                row = told(kind, many)
                having = [number for number, orders in enumerate(row) if orders]
                for number in [having[0], having[1], having[-1]] + draw.sample(having, 2):
                    orders = row[number]
                    some = draw.randrange(orders)
                    self.check(kind, many, number, sorted({0, some, min(some + 1, orders - 1), orders - 1}))
                    for at in (orders, orders + 1, factorial(many), 10 ** 60):
                        self.assertIsNone(nth(kind, many, number, at))
                for number in (len(row), len(row) + 5, 10 ** 40):
                    self.assertIsNone(nth(kind, many, number, 0))

    def test_the_first_and_the_last_that_are_known(self):
        for kind in STEP_KINDS:
            for many in FAR[kind]:
                rising, falling = tuple(range(many)), tuple(range(many))[::-1]
                number, orders = count(kind, rising), told(kind, many)
                self.assertEqual(nth(kind, many, number, 0), rising)
                last = orders[count(kind, falling)] - 1
                self.assertEqual(nth(kind, many, count(kind, falling), last), falling)

    def test_drawn_orders_there_and_back(self):
        for kind in STEP_KINDS:
            for many in FAR[kind]:
                for order in drawn_orders(many + 3, (many,) * 3):
                    at = place_among(kind, order)
                    self.assertIs(type(at), int)
                    self.assertEqual(nth(kind, many, count(kind, order), at), order)

    def test_nothing_is_changed_and_the_same_is_told_again(self):
        for kind in STEP_KINDS:
            for order in orders_to(4):
                kept = tuple(list(order))
                first = place_among(kind, order)
                self.assertEqual(order, kept)
                self.assertEqual(place_among(kind, order), first)
            first = nth(kind, 9, 3, 77)
            nth(kind, 9, 4, 78)
            self.assertEqual(nth(kind, 9, 3, 77), first)


if __name__ == "__main__":
    unittest.main()
