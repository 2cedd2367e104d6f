import unittest
from bisect import bisect
from collections import Counter
from fractions import Fraction
from itertools import combinations
from math import comb, factorial

from shuffletold.counts import count
from shuffletold.told import share, steps, told
from tests.helper import KINDS, STEP_KINDS, is_told_order, is_told_share, orders_of

# At each kind's bound, and somewhat beyond it.
FAR = {
    "rounds": (59, 60, 61, 67),
    "stays": (59, 60, 61, 67),
    "rises": (59, 60, 61, 67),
    "highs": (59, 60, 61, 67),
    "crossed": (23, 24, 25, 29),
    "longest": (13, 14, 15, 18),
}


def greatest(kind, many):
    """The greatest count that an order of so many has."""
    if kind == "rises":
        return max(0, many - 1)
    return many * (many - 1) // 2 if kind == "crossed" else many


def told_by_orders(kind, many):
    """How many orders have each count, by all orders one by one."""
    found = Counter(count(kind, order) for order in orders_of(many))
    return tuple(found[number] for number in range(max(found) + 1))


def product(polynomials):
    """The numbers of the product of polynomials, each told by its numbers from the lowest on."""
    found = [1]
    for numbers in polynomials:
        larger = [0] * (len(found) + len(numbers) - 1)
        for at, one in enumerate(found):
            for by, other in enumerate(numbers):
                larger[at + by] += one * other
        found = larger
    return tuple(found)


def none_stays(many):
    """How many orders of so many have no stay."""
    return sum((-1) ** k * factorial(many) // factorial(k) for k in range(many + 1))


def told_by_formula(kind, many):
    """The same for all kinds but longest, by closed forms and products, without a row ahead."""
    if kind in ("rounds", "highs"):
        return product([size, 1] for size in range(many))
    if kind == "stays":
        return tuple(comb(many, k) * none_stays(many - k) for k in range(many + 1))
    if kind == "crossed":
        return product([1] * (size + 1) for size in range(many))
    if many == 0:
        return (1,)
    return tuple(
        sum((-1) ** j * comb(many + 1, j) * (k + 1 - j) ** many for j in range(k + 1)) for k in range(many)
    )


def longest_by_lasts(most):
    """What is told of longest, for 0 to most things, number by number as it comes behind the others.

    A state is the ranks, among those that came, of the least numbers with which rising rows of each length end.
    """
    states = Counter({(): 1})
    found = []
    for many in range(most + 1):
        numbers = [0] * (many + 1)
        for lasts, orders in states.items():
            numbers[len(lasts)] += orders
        found.append(tuple(numbers))
        larger = Counter()
        for lasts, orders in states.items():
            for rank in range(many + 1):
                lifted = tuple(last + 1 if last >= rank else last for last in lasts)
                at = bisect(lifted, rank)
                larger[lifted[:at] + (rank,) + lifted[at + 1:]] += orders
        states = larger
    return found


class Told(unittest.TestCase):
    def test_plain_ones(self):
        self.assertEqual(told("rounds", 4), (0, 6, 11, 6, 1))
        self.assertEqual(told("stays", 4), (9, 8, 6, 0, 1))
        self.assertEqual(told("rises", 4), (1, 11, 11, 1))
        self.assertEqual(told("highs", 4), (0, 6, 11, 6, 1))
        self.assertEqual(told("crossed", 4), (1, 3, 5, 6, 5, 3, 1))
        self.assertEqual(told("longest", 4), (0, 1, 13, 9, 1))

    def test_of_none_one_and_two(self):
        for kind in KINDS:
            self.assertEqual(told(kind, 0), (1,))
        self.assertEqual([told(kind, 1) for kind in KINDS], [(0, 1), (0, 1), (1,), (0, 1), (1,), (0, 1)])
        self.assertEqual(
            [told(kind, 2) for kind in KINDS], [(0, 1, 1), (1, 0, 1), (1, 1), (0, 1, 1), (1, 1), (0, 1, 1)]
        )

    def test_of_up_to_seven_by_all_orders(self):
        for kind in KINDS:
            for many in range(8):
                self.assertEqual(told(kind, many), told_by_orders(kind, many), (kind, many))

    def test_by_formulas_to_the_bounds_and_beyond(self):
        for kind in STEP_KINDS:
            for many in tuple(range(24)) + FAR[kind]:
                self.assertEqual(told(kind, many), told_by_formula(kind, many), (kind, many))

    def test_longest_by_another_way_to_its_bound_and_beyond(self):
        for many, row in enumerate(longest_by_lasts(15)):
            self.assertEqual(told("longest", many), row, many)

    def test_longest_of_two_at_most_and_of_one_less_than_all(self):
        for many in (13, 14, 15, 18, 20):
            row = told("longest", many)
            self.assertEqual(row[:2], (0, 1))
            self.assertEqual(row[1] + row[2], comb(2 * many, many) // (many + 1))
            self.assertEqual(row[many - 1:], ((many - 1) ** 2, 1))

    def test_the_counts_come_to_all_orders(self):
        for kind in KINDS:
            for many in tuple(range(14)) + FAR[kind]:
                self.assertEqual(sum(told(kind, many)), factorial(many), (kind, many))

    def test_from_none_to_the_greatest_count_and_no_further(self):
        for kind in KINDS:
            for many in tuple(range(14)) + FAR[kind]:
                row = told(kind, many)
                self.assertTrue(is_told_order(row))
                self.assertEqual(len(row), greatest(kind, many) + 1, (kind, many))
                self.assertEqual(row[-1], 1, (kind, many))
                self.assertGreaterEqual(min(row), 0)

    def test_rounds_and_highs_are_the_same(self):
        for many in tuple(range(14)) + FAR["rounds"]:
            self.assertEqual(told("rounds", many), told("highs", many))

    def test_rises_and_crossed_are_the_same_from_behind(self):
        for kind in ("rises", "crossed"):
            for many in tuple(range(14)) + FAR[kind]:
                self.assertEqual(told(kind, many), told(kind, many)[::-1])

    def test_the_same_is_told_again(self):
        for kind in KINDS:
            for many in range(9):
                first = told(kind, many)
                told(kind, many + 2)
                self.assertEqual(told(kind, many), first)


class Share(unittest.TestCase):
    def test_plain_ones(self):
        self.assertEqual(share("rounds", 4, (1,)), (1, 4))
        self.assertEqual(share("stays", 4, (0,)), (3, 8))
        self.assertEqual(share("rises", 4, (1, 2)), (11, 12))
        self.assertEqual(share("highs", 4, (2, 4)), (1, 2))
        self.assertEqual(share("crossed", 4, (0, 3, 6)), (1, 3))
        self.assertEqual(share("longest", 4, (2, 3)), (11, 12))

    def test_of_all_counts_and_of_none(self):
        for kind in KINDS:
            for many in tuple(range(10)) + FAR[kind]:
                counts = tuple(range(greatest(kind, many) + 1))
                self.assertEqual(share(kind, many, counts), (1, 1))
                self.assertEqual(share(kind, many, ()), (0, 1))
                self.assertEqual(share(kind, many, (-3, -2, -1) + counts + (counts[-1] + 1, 10 ** 30)), (1, 1))

    def test_counts_below_none_and_beyond_the_greatest(self):
        for kind in KINDS:
            for many in tuple(range(10)) + FAR[kind]:
                most = greatest(kind, many)
                # The last places from behind are asked one by one: none is told as a place from behind.
                for below in range(-most - 3, 0):
                    self.assertEqual(share(kind, many, (below,)), (0, 1))
                self.assertEqual(share(kind, many, (most + 1,)), (0, 1))
                self.assertEqual(share(kind, many, (-10 ** 40, -1, most + 1, most + 2, 10 ** 40)), (0, 1))
                self.assertEqual(
                    share(kind, many, (-10 ** 40, -1, most, most + 1)), (1, factorial(many)), (kind, many)
                )

    def check(self, kind, many, counts, found):
        """One share against the counts found of all orders one by one."""
        having = len([number for number in found if number in counts])
        told_share = share(kind, many, counts)
        self.assertTrue(is_told_share(told_share))
        self.assertEqual(Fraction(*told_share), Fraction(having, len(found)), (kind, many, counts))

    def test_every_counts_of_few_by_all_orders(self):
        for kind in KINDS:
            for many in range(5):
                found = [count(kind, order) for order in orders_of(many)]
                asked = range(-2, greatest(kind, many) + 3)
                for size in range(len(asked) + 1):
                    for counts in combinations(asked, size):
                        self.check(kind, many, counts, found)

    def test_of_five_and_six_by_all_orders(self):
        for kind in KINDS:
            for many in (5, 6):
                found = [count(kind, order) for order in orders_of(many)]
                for step in (1, 2, 3, 5):
                    for first in range(-2, 4):
                        self.check(kind, many, tuple(range(first, greatest(kind, many) + 4, step)), found)

    def test_counts_and_all_others_come_to_one(self):
        for kind in KINDS:
            for many in tuple(range(10)) + FAR[kind]:
                most = greatest(kind, many)
                for step in (1, 2, 3, 7):
                    for first in (-4, 0, 1, most // 2):
                        counts = tuple(range(first, most + 3, step))
                        others = tuple(number for number in range(-4, most + 3) if number not in counts)
                        one, other = share(kind, many, counts), share(kind, many, others)
                        self.assertTrue(is_told_share(one) and is_told_share(other))
                        self.assertEqual(Fraction(*one) + Fraction(*other), 1)

    def test_at_the_bounds_by_formulas(self):
        for kind in STEP_KINDS:
            for many in FAR[kind]:
                row = told_by_formula(kind, many)
                for counts in ((0,), (1,), (0, 2, 5), (-1, 3, len(row)), tuple(range(0, len(row), 3))):
                    having = sum(row[number] for number in counts if number in range(len(row)))
                    self.assertEqual(Fraction(*share(kind, many, counts)), Fraction(having, factorial(many)))

    def test_nothing_is_changed_and_the_same_is_told_again(self):
        for kind in KINDS:
            counts = (-1, 0, 2, 3, 9, 100)
            kept = tuple(list(counts))
            first = share(kind, 6, counts)
            self.assertEqual(counts, kept)
            self.assertEqual(share(kind, 6, counts), first)


class Steps(unittest.TestCase):
    def test_plain_ones(self):
        self.assertEqual(steps("rounds", 3), ((1,), (0, 1), (0, 1, 1), (0, 2, 3, 1)))
        self.assertEqual(steps("stays", 3), ((1,), (0, 1), (1, 0, 1), (2, 3, 0, 1)))
        self.assertEqual(steps("rises", 3), ((1,), (1,), (1, 1), (1, 4, 1)))
        self.assertEqual(steps("highs", 3), ((1,), (0, 1), (0, 1, 1), (0, 2, 3, 1)))
        self.assertEqual(steps("crossed", 3), ((1,), (1,), (1, 1), (1, 2, 2, 1)))

    def test_each_row_is_told_of_so_many(self):
        for kind in STEP_KINDS:
            for many in tuple(range(10)) + FAR[kind]:
                found = steps(kind, many)
                self.assertIs(type(found), tuple)
                self.assertTrue(all(is_told_order(row) for row in found))
                self.assertEqual(found, tuple(told_by_formula(kind, size) for size in range(many + 1)), (kind, many))

    def test_begins_with_none_and_ends_with_told(self):
        for kind in STEP_KINDS:
            for many in tuple(range(30)) + FAR[kind]:
                found = steps(kind, many)
                self.assertEqual(len(found), many + 1)
                self.assertEqual(found[0], (1,))
                self.assertEqual(found[-1], told(kind, many))

    def test_those_of_fewer_are_its_first_rows(self):
        for kind in STEP_KINDS:
            found = steps(kind, 30)
            for many in range(30):
                self.assertEqual(steps(kind, many), found[:many + 1])

    def test_rows_of_few_by_all_orders(self):
        for kind in STEP_KINDS:
            self.assertEqual(steps(kind, 6), tuple(told_by_orders(kind, many) for many in range(7)))


if __name__ == "__main__":
    unittest.main()
