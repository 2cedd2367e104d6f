import unittest
from fractions import Fraction
from math import comb, factorial

from shuffletold.bounds import between, mean_between, most_share
from shuffletold.counts import count
from shuffletold.means import mean
from shuffletold.told import told
from tests.helper import KINDS, as_fraction, as_share, is_told_share, mean_and_spread, orders_of

MANIES = (
    list(range(20)) + [31, 32, 33, 59, 60, 61, 63, 64, 65, 119, 120, 121, 122, 127, 128, 1000, 1023, 1024]
    + [10 ** 9, 10 ** 29, 2 ** 99 - 1, 2 ** 99, 10 ** 30 - 1, 10 ** 30, 10 ** 30 + 1, 2 ** 100]
)
NUMBERS = tuple(range(67))


def binary_figures(many):
    """How many binary figures many has, 0 of 0."""
    return len(f"{many:b}") if many else 0


def bound_by_words(kind, many, number):
    """What the document tells of most_share, reckoned anew."""
    if number == 0:
        return Fraction(1)
    if kind == "stays":
        found = Fraction(1, factorial(number)) if number <= many else Fraction(0)
    elif kind == "longest":
        found = Fraction(comb(many, number), factorial(number))
    elif kind in ("rounds", "highs"):
        found = Fraction(binary_figures(many) ** number, factorial(number))
    else:
        middle, wide = mean_and_spread(kind, many)
        found = wide / (number - middle) ** 2 if number > middle else Fraction(1)
    return min(found, Fraction(1))


def turned_sum(last):
    """1 - 1 + 1 / 2! - .., to last!, put together from the last on."""
    found = Fraction(0)
    for number in range(last, -1, -1):
        # s = 1 - (1 - (1 - .. / 3) / 2) / 1
        found = 1 - found / (number + 1)
    return found


class MostShare(unittest.TestCase):
    def test_plain_ones(self):
        for kind in KINDS:
            for many in (0, 1, 5, 60, 10 ** 30):
                self.assertEqual(most_share(kind, many, 0), (1, 1))
        self.assertEqual(most_share("stays", 10, 3), (1, 6))
        self.assertEqual(most_share("stays", 3, 3), (1, 6))
        self.assertEqual(most_share("stays", 2, 3), (0, 1))
        self.assertEqual(most_share("longest", 4, 3), (2, 3))
        self.assertEqual(most_share("longest", 4, 5), (0, 1))
        self.assertEqual(most_share("longest", 9, 3), (1, 1))
        self.assertEqual(most_share("rounds", 3, 4), (2, 3))
        self.assertEqual(most_share("highs", 4, 4), (1, 1))
        self.assertEqual(most_share("highs", 0, 1), (0, 1))
        self.assertEqual(most_share("rises", 4, 3), (5, 27))
        self.assertEqual(most_share("crossed", 4, 6), (13, 54))

    def test_as_the_words_tell(self):
        for kind in KINDS:
            for many in MANIES:
                for number in NUMBERS:
                    found = most_share(kind, many, number)
                    self.assertTrue(is_told_share(found), (kind, many, number))
                    self.assertEqual(as_fraction(found), bound_by_words(kind, many, number), (kind, many, number))

    def test_at_none_one_and_very_many(self):
        great = 10 ** 30
        for number in range(1, 61):
            for kind in KINDS:
                self.assertEqual(most_share(kind, 0, number), (0, 1), (kind, number))
            self.assertEqual(most_share("stays", 1, number), (1, 1) if number == 1 else (0, 1))
            self.assertEqual(most_share("longest", 1, number), (1, 1) if number == 1 else (0, 1))
            self.assertEqual(most_share("rises", 1, number), (0, 1))
            self.assertEqual(most_share("crossed", 1, number), (0, 1))
            self.assertEqual(most_share("rounds", 1, number), (1, factorial(number)))
            self.assertEqual(most_share("highs", 1, number), (1, factorial(number)))
            self.assertEqual(most_share("stays", great, number), (1, factorial(number)))
            self.assertEqual(most_share("longest", great, number), (1, 1))
            self.assertEqual(most_share("rises", great, number), (1, 1))
            self.assertEqual(most_share("crossed", great, number), (1, 1))
        self.assertEqual(most_share("highs", great, 60), (1, 1))
        self.assertLess(as_fraction(most_share("highs", 2 ** 21, 60)), 1)

    def test_at_and_around_the_mean(self):
        for kind, manies in (("rises", range(121)), ("crossed", range(17))):
            for many in manies:
                middle, wide = mean_and_spread(kind, many)
                for number in range(max(0, int(middle) - 2), int(middle) + 4):
                    found = as_fraction(most_share(kind, many, number))
                    if number <= middle or number == 0:
                        self.assertEqual(found, 1)
                    else:
                        self.assertEqual(found, min(Fraction(1), wide / (number - middle) ** 2))

    def test_never_below_the_share_of_all_orders_of_few(self):
        for many in range(7):
            for kind in KINDS:
                counts = [count(kind, order) for order in orders_of(many)]
                for number in range(20):
                    having = Fraction(sum(1 for found in counts if found >= number), len(counts))
                    self.assertLessEqual(having, as_fraction(most_share(kind, many, number)), (kind, many, number))

    def test_never_below_what_is_told(self):
        for kind, manies in (
            ("rounds", (7, 15, 16, 31, 32, 60)), ("stays", (7, 20, 60)), ("rises", (7, 20, 60)),
            ("highs", (7, 15, 16, 31, 32, 60)), ("crossed", (7, 12, 16)), ("longest", (7, 10, 14)),
        ):
            for many in manies:
                row = told(kind, many)
                for number in range(len(row) + 2):
                    having = Fraction(sum(row[number:]), factorial(many))
                    self.assertLessEqual(having, as_fraction(most_share(kind, many, number)), (kind, many, number))

    def test_asked_again(self):
        for kind in KINDS:
            self.assertEqual(most_share(kind, 100, 55), most_share(kind, 100, 55))


class Between(unittest.TestCase):
    def test_plain_ones(self):
        self.assertEqual(between(0, 0), ((0, 1), (1, 1)))
        self.assertEqual(between(0, 1), ((0, 1), (1, 2)))
        self.assertEqual(between(0, 2), ((1, 3), (1, 2)))
        self.assertEqual(between(1, 4), ((1, 3), (3, 8)))
        self.assertEqual(between(2, 2), ((0, 1), (1, 2)))

    def test_against_sums_put_together_another_way(self):
        for number in range(63):
            for many in range(number, 64):
                found = between(number, many)
                self.assertEqual((type(found), len(found)), (tuple, 2))
                self.assertTrue(all(is_told_share(share) for share in found))
                ends = [turned_sum(last) / factorial(number) for last in (many - number, many - number + 1)]
                self.assertEqual([as_fraction(share) for share in found], sorted(ends), (number, many))
                self.assertLess(*[as_fraction(share) for share in found])

    def test_what_is_told_of_stays_lies_between(self):
        having = {many: [Fraction(orders, factorial(many)) for orders in told("stays", many)] for many in range(66)}
        for number in range(61):
            for many in range(number, 61):
                low, high = map(as_fraction, between(number, many))
                ends = (having[many][number], having[many + 1][number])
                self.assertEqual(sorted(ends), [low, high])
                for later in range(many, 66):
                    self.assertTrue(low <= having[later][number] <= high, (number, many, later))

    def test_all_orders_of_few(self):
        for many in range(7):
            counts = [count("stays", order) for order in orders_of(many)]
            for number in range(many + 1):
                for begun in range(number, many + 1):
                    low, high = map(as_fraction, between(number, begun))
                    self.assertTrue(low <= Fraction(counts.count(number), len(counts)) <= high)

    def test_asked_again(self):
        self.assertEqual(between(5, 60), between(5, 60))


class MeanBetween(unittest.TestCase):
    def test_plain_ones(self):
        self.assertEqual(mean_between(1), ((1, 1), (1, 1)))
        self.assertEqual(mean_between(2), ((3, 2), (2, 1)))
        self.assertEqual(mean_between(3), ((3, 2), (2, 1)))
        self.assertEqual(mean_between(4), ((2, 1), (3, 1)))
        self.assertEqual(mean_between(10 ** 30), ((101, 2), (100, 1)))

    def test_as_the_words_tell(self):
        for many in MANIES[1:]:
            found = mean_between(many)
            self.assertEqual((type(found), len(found)), (tuple, 2))
            figures = binary_figures(many)
            self.assertEqual(found, (as_share(1 + Fraction(figures - 1, 2)), as_share(Fraction(figures))))
            self.assertTrue(all(is_told_share(share) for share in found))
            self.assertEqual(mean_between(many), found)

    def test_the_mean_lies_between(self):
        total = Fraction(0)
        for many in range(1, 1026):
            total += Fraction(1, many)
            low, high = map(as_fraction, mean_between(many))
            self.assertTrue(low <= total <= high, many)
            if many <= 200 and many % 20 < 3:
                self.assertEqual(as_fraction(mean("highs", many)), total)
                self.assertEqual(as_fraction(mean("rounds", many)), total)


if __name__ == "__main__":
    unittest.main()
