import unittest
from fractions import Fraction
from math import comb

from shuffletold.counts import count
from shuffletold.means import mean, spread
from shuffletold.parts import both_share, one_share, parts
from shuffletold.told import told
from tests.helper import STEP_KINDS, is_told_share, orders_of

FEW_KINDS = ("rounds", "highs")
GREAT_KINDS = ("stays", "rises", "crossed")
# At the bounds, somewhat beyond, and about them.
GREAT = (61, 200, 10 ** 6, 10 ** 30 - 1, 10 ** 30, 10 ** 30 + 1, 10 ** 31 + 7)


def by_told(kind, many):
    """The mean and the spread, by the counts told of all orders."""
    row = told(kind, many)
    middle = Fraction(sum(number * orders for number, orders in enumerate(row)), sum(row))
    squares = Fraction(sum(number ** 2 * orders for number, orders in enumerate(row)), sum(row))
    return middle, squares - middle ** 2


def by_parts(kind, many):
    """The mean and the spread, part by part, with each other one."""
    shares = {part: Fraction(*one_share(kind, many, part)) for part in parts(kind, many)}
    leans = [
        Fraction(*both_share(kind, many, one, other)) - shares[one] * shares[other]
        for one in shares for other in shares
    ]
    return sum(shares.values()), sum(leans)


def through_points(values, at):
    """What the least polynomial through (0, values[0]), (1, values[1]), .. has at so much, by differences."""
    total, ways = Fraction(0), Fraction(1)
    for step in range(len(values)):
        total += ways * values[0]
        ways = ways * (at - step) / (step + 1)
        values = [behind - ahead for ahead, behind in zip(values, values[1:])]
    return total


class MeanAndSpread(unittest.TestCase):
    def check(self, kind, many, wanted):
        found = (mean(kind, many), spread(kind, many))
        for told_share, worth in zip(found, wanted):
            self.assertTrue(is_told_share(told_share), (kind, many, told_share))
            self.assertEqual(Fraction(*told_share), worth, (kind, many))

    def test_plain_ones(self):
        self.assertEqual([mean(kind, 4) for kind in STEP_KINDS], [(25, 12), (1, 1), (3, 2), (25, 12), (3, 1)])
        self.assertEqual(
            [spread(kind, 4) for kind in STEP_KINDS], [(95, 144), (1, 1), (5, 12), (95, 144), (13, 6)]
        )

    def test_of_none_one_and_two(self):
        for kind in STEP_KINDS:
            self.assertEqual((mean(kind, 0), spread(kind, 0)), ((0, 1), (0, 1)), kind)
            self.assertEqual(spread(kind, 1), (0, 1), kind)
        self.assertEqual([mean(kind, 1) for kind in STEP_KINDS], [(1, 1), (1, 1), (0, 1), (1, 1), (0, 1)])
        self.assertEqual([mean(kind, 2) for kind in STEP_KINDS], [(3, 2), (1, 1), (1, 2), (3, 2), (1, 2)])
        self.assertEqual([spread(kind, 2) for kind in STEP_KINDS], [(1, 4), (1, 1), (1, 4), (1, 4), (1, 4)])

    def test_by_all_orders_of_few(self):
        for kind in STEP_KINDS:
            for many in range(7):
                counts = [count(kind, order) for order in orders_of(many)]
                middle = Fraction(sum(counts), len(counts))
                self.check(kind, many, (middle, Fraction(sum((got - middle) ** 2 for got in counts), len(counts))))

    def test_by_what_is_told(self):
        for kind in STEP_KINDS:
            for many in tuple(range(25)) + (() if kind == "crossed" else (59, 60, 64)):
                self.check(kind, many, by_told(kind, many))

    def test_part_by_part(self):
        for kind in STEP_KINDS:
            for many in tuple(range(9)) + (() if kind == "crossed" else (30,)):
                self.check(kind, many, by_parts(kind, many))

    def test_rounds_and_highs_at_the_bound_and_beyond(self):
        for many in (61, 199, 200, 201, 260):
            middle = sum(Fraction(1, k) for k in range(1, many + 1))
            squares = sum(Fraction(1, k * k) for k in range(1, many + 1))
            for kind in FEW_KINDS:
                self.check(kind, many, (middle, middle - squares))

    def test_rounds_at_the_bound_by_what_is_told(self):
        self.check("rounds", 200, by_told("rounds", 200))

    def test_the_others_by_polynomials_through_what_is_told(self):
        # From two things on each is a polynomial in many, of a degree below four.
        for kind in GREAT_KINDS:
            few = [by_told(kind, many) for many in range(2, 9)]
            for many in GREAT:
                self.check(kind, many, [through_points([pair[at] for pair in few], many - 2) for at in (0, 1)])

    def test_the_others_by_numbers_of_parts_that_touch(self):
        quarter = Fraction(1, 4)
        for many in (0, 1, 2, 3, 7) + GREAT:
            self.check("stays", many, (min(many, 1), min(max(many - 1, 0), 1)))
            self.check("rises", many, (
                Fraction(max(many - 1, 0), 2),
                max(many - 1, 0) * quarter + 2 * max(many - 2, 0) * (Fraction(1, 6) - quarter),
            ))
            twos, threes = many * (many - 1) // 2, many * (many - 1) * (many - 2) // 6
            self.check("crossed", many, (
                Fraction(twos, 2),
                twos * quarter + 4 * threes * (Fraction(1, 3) - quarter) + 2 * threes * (Fraction(1, 6) - quarter),
            ))

    def test_written_out_at_the_bound(self):
        most = 10 ** 30
        self.assertEqual((mean("stays", most), spread("stays", most)), ((1, 1), (1, 1)))
        self.assertEqual(mean("rises", most), (most - 1, 2))
        self.assertEqual(spread("rises", most), (most + 1, 12))
        self.assertEqual(mean("crossed", most), (comb(most, 2) // 2, 1))
        self.assertEqual(Fraction(*spread("crossed", most)), Fraction(most * (most - 1) * (2 * most + 5), 72))

    def test_the_same_is_told_again(self):
        for kind in STEP_KINDS:
            first = (mean(kind, 30), spread(kind, 30))
            mean(kind, 31)
            spread(kind, 29)
            self.assertEqual((mean(kind, 30), spread(kind, 30)), first)


if __name__ == "__main__":
    unittest.main()
