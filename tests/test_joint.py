import unittest
from collections import Counter
from fractions import Fraction
from math import comb, factorial

from shuffletold.counts import count
from shuffletold.joint import lean, together, whole
from shuffletold.told import told
from tests.helper import KINDS, is_told, is_told_order, is_told_share, orders_of

PAIRS = (("rounds", "stays"), ("rises", "highs"), ("highs", "crossed"))
# At each pair's bound, and somewhat beyond it.
FAR = {PAIRS[0]: (15, 16, 17, 20), PAIRS[1]: (15, 16, 17, 20), PAIRS[2]: (9, 10, 11, 14)}


def laid_out(pair, many, numbers):
    """The rows of a Counter of pairs of counts, as many as the greatest counts ask for."""
    rows, columns = [len(told(kind, many)) for kind in pair]
    found = tuple(tuple(numbers[k, j] for j in range(columns)) for k in range(rows))
    assert sum(sum(row) for row in found) == sum(numbers.values())
    return found


def by_orders(pair, many):
    """How many orders have each pair of counts, by all orders one by one."""
    return Counter((count(pair[0], order), count(pair[1], order)) for order in orders_of(many))


def rounds_without_stays(most):
    """For 0 to most things, how many orders without a stay have each number of rounds."""
    found = [{0: 1}, {}]
    for many in range(2, most + 1):
        numbers = Counter()
        # Of the greatest number's round: it has another, alone with it or in a longer round.
        for rounds, orders in found[many - 2].items():
            numbers[rounds + 1] += (many - 1) * orders
        for rounds, orders in found[many - 1].items():
            numbers[rounds] += (many - 1) * orders
        found.append(numbers)
    return found


def rounds_and_stays(many):
    """By the choice of the places that stay, the others being without a stay."""
    free = rounds_without_stays(many)
    numbers = Counter()
    for stays in range(many + 1):
        for rounds, orders in free[many - stays].items():
            numbers[rounds + stays, stays] += comb(many, stays) * orders
    return numbers


def rises_and_highs(many):
    """Number by number as it comes behind the others, by its rank among them."""
    if many == 0:
        return Counter({(0, 0): 1})
    states = Counter({(0, 0, 1): 1})
    for size in range(1, many):
        larger = Counter()
        for (last, rises, highs), orders in states.items():
            for rank in range(size + 1):
                larger[rank, rises + (rank > last), highs + (rank == size)] += orders
        states = larger
    numbers = Counter()
    for (_, rises, highs), orders in states.items():
        numbers[rises, highs] += orders
    return numbers


def highs_and_crossed(many):
    """Place by place, by how many of the numbers ahead are greater, each as likely."""
    numbers = Counter({(0, 0): 1})
    for size in range(many):
        larger = Counter()
        for (highs, crossed), orders in numbers.items():
            for greater in range(size + 1):
                larger[highs + (greater == 0), crossed + greater] += orders
        numbers = larger
    return numbers


OTHER_WAYS = {PAIRS[0]: rounds_and_stays, PAIRS[1]: rises_and_highs, PAIRS[2]: highs_and_crossed}


def lean_of(numbers):
    """The lean of a Counter of pairs of counts."""
    orders = sum(numbers.values())
    both = sum(Fraction(k * j * ways, orders) for (k, j), ways in numbers.items())
    one = sum(Fraction(k * ways, orders) for (k, j), ways in numbers.items())
    other = sum(Fraction(j * ways, orders) for (k, j), ways in numbers.items())
    return both - one * other


class Together(unittest.TestCase):
    def test_plain_ones(self):
        self.assertEqual(together("rounds", "stays", 3), ((0, 0, 0, 0), (2, 0, 0, 0), (0, 3, 0, 0), (0, 0, 0, 1)))
        self.assertEqual(together("rises", "highs", 3), ((0, 1, 0, 0), (0, 1, 3, 0), (0, 0, 0, 1)))
        self.assertEqual(together("highs", "crossed", 3), ((0, 0, 0, 0), (0, 0, 1, 1), (0, 2, 1, 0), (1, 0, 0, 0)))

    def test_of_none_and_of_one(self):
        for pair in PAIRS:
            self.assertEqual(together(*pair, 0), ((1,),))
        self.assertEqual(together("rounds", "stays", 1), ((0, 0), (0, 1)))
        self.assertEqual(together("rises", "highs", 1), ((0, 1),))
        self.assertEqual(together("highs", "crossed", 1), ((0,), (1,)))

    def test_of_up_to_eight_by_all_orders(self):
        for pair in PAIRS:
            for many in range(9):
                self.assertEqual(together(*pair, many), laid_out(pair, many, by_orders(pair, many)), (pair, many))

    def test_by_other_ways_to_the_bounds_and_beyond(self):
        for pair in PAIRS:
            for many in tuple(range(9)) + FAR[pair]:
                wanted = laid_out(pair, many, OTHER_WAYS[pair](many))
                self.assertEqual(together(*pair, many), wanted, (pair, many))

    def test_rows_and_columns_come_to_told(self):
        for pair in PAIRS:
            for many in tuple(range(9)) + FAR[pair]:
                found = together(*pair, many)
                self.assertIs(type(found), tuple)
                self.assertTrue(all(is_told_order(row) for row in found))
                self.assertEqual(tuple(sum(row) for row in found), told(pair[0], many))
                self.assertEqual({len(row) for row in found}, {len(told(pair[1], many))})
                self.assertEqual(tuple(sum(column) for column in zip(*found)), told(pair[1], many))
                self.assertEqual(sum(sum(row) for row in found), factorial(many))

    def test_the_same_is_told_again(self):
        for pair in PAIRS:
            for many in range(7):
                first = together(*pair, many)
                together(*pair, many + 2)
                self.assertEqual(together(*pair, many), first)


class Whole(unittest.TestCase):
    def test_plain_ones(self):
        self.assertEqual(whole(0), (((0, 0, 0, 0, 0, 0), 1),))
        self.assertEqual(whole(1), (((1, 1, 0, 1, 0, 1), 1),))
        self.assertEqual(whole(2), (((1, 0, 0, 1, 1, 1), 1), ((2, 2, 1, 2, 0, 2), 1)))
        self.assertEqual(whole(3), (
            ((1, 0, 1, 1, 2, 2), 1), ((1, 0, 1, 2, 2, 2), 1), ((2, 1, 0, 1, 3, 1), 1), ((2, 1, 1, 2, 1, 2), 2),
            ((3, 3, 2, 3, 0, 3), 1),
        ))

    def test_of_up_to_seven_by_all_orders(self):
        for many in range(8):
            wanted = Counter(tuple(count(kind, order) for kind in KINDS) for order in orders_of(many))
            self.assertEqual(whole(many), tuple(sorted(wanted.items())), many)

    def test_form_and_order(self):
        for many in range(7):
            found = whole(many)
            self.assertTrue(is_told(found))
            counts = [row[0] for row in found]
            self.assertEqual(counts, sorted(set(counts)))
            for row in found:
                self.assertEqual(len(row), 2)
                self.assertEqual(len(row[0]), 6)
                self.assertTrue(is_told_order(row[0]))
                self.assertIs(type(row[1]), int)
                self.assertGreaterEqual(row[1], 1)
            self.assertEqual(sum(row[1] for row in found), factorial(many))

    def test_each_kind_by_itself_comes_to_told(self):
        for many in range(7):
            for at, kind in enumerate(KINDS):
                numbers = [0] * len(told(kind, many))
                for counts, orders in whole(many):
                    numbers[counts[at]] += orders
                self.assertEqual(tuple(numbers), told(kind, many), (kind, many))

    def test_each_pair_comes_to_together(self):
        for many in range(7):
            for pair in PAIRS:
                one, other = KINDS.index(pair[0]), KINDS.index(pair[1])
                numbers = Counter()
                for counts, orders in whole(many):
                    numbers[counts[one], counts[other]] += orders
                self.assertEqual(laid_out(pair, many, numbers), together(*pair, many), (pair, many))

    def test_the_same_is_told_again(self):
        for many in range(6):
            self.assertEqual(whole(many), whole(many))


class Lean(unittest.TestCase):
    def test_plain_ones(self):
        self.assertEqual(lean("rounds", "stays", 4), (3, 4))
        self.assertEqual(lean("rises", "highs", 4), (3, 8))
        self.assertEqual(lean("highs", "crossed", 4), (-23, 24))

    def test_of_none_and_of_one_there_is_none(self):
        for pair in PAIRS:
            self.assertEqual(lean(*pair, 0), (0, 1))
            self.assertEqual(lean(*pair, 1), (0, 1))

    def test_above_and_below_none(self):
        for many in range(2, 17):
            self.assertGreater(lean("rounds", "stays", many)[0], 0)
            self.assertGreater(lean("rises", "highs", many)[0], 0)
        for many in range(2, 11):
            self.assertLess(lean("highs", "crossed", many)[0], 0)
        self.assertEqual(lean("highs", "crossed", 2), (-1, 4))
        # Beyond 1 below 0, too.
        self.assertEqual(lean("highs", "crossed", 5), (-163, 120))

    def test_of_up_to_seven_by_all_orders(self):
        for pair in PAIRS:
            for many in range(8):
                found = lean(*pair, many)
                self.assertTrue(is_told_share(found), (pair, many, found))
                self.assertEqual(Fraction(*found), lean_of(by_orders(pair, many)), (pair, many))

    def test_by_formulas_to_the_bounds_and_beyond(self):
        for many in tuple(range(1, 15)) + FAR[PAIRS[0]]:
            self.assertEqual(Fraction(*lean("rounds", "stays", many)), Fraction(many - 1, many))
            self.assertEqual(Fraction(*lean("rises", "highs", many)), Fraction(many - 1, 2 * many))
        for many in tuple(range(9)) + FAR[PAIRS[2]]:
            # Each place has its own part in both counts, none of which hangs on another place.
            wanted = sum(Fraction(-place, 2 * (place + 1)) for place in range(many))
            self.assertEqual(Fraction(*lean("highs", "crossed", many)), wanted)

    def test_lowest_terms(self):
        for pair in PAIRS:
            for many in tuple(range(9)) + FAR[pair]:
                self.assertTrue(is_told_share(lean(*pair, many)), (pair, many))

    def test_the_same_is_told_again(self):
        for pair in PAIRS:
            for many in range(8):
                self.assertEqual(lean(*pair, many), lean(*pair, many))


if __name__ == "__main__":
    unittest.main()
