import unittest
from fractions import Fraction

from shuffletold.stopping import best_share, rule, table
from tests.helper import (
    as_fraction, as_share, best_of_all_ways, is_told, is_told_order, is_told_share, is_won, orders_of
)

SIZES = [(many, hands) for many in range(1, 41) for hands in range(5)]
BEYOND = [(41, 4), (45, 2), (40, 5), (50, 6), (3, 7), (61, 3)]


def by_mends(many, hands):
    """The shares of 35, as fractions times many, from the last place on, by place and then by hands."""
    columns = [[Fraction(0)] * (hands + 1)]
    for place in range(many - 1, -1, -1):
        behind = columns[0]
        column = [Fraction(0)]
        for left in range(1, hands + 1):
            laid = place + 1 + behind[left - 1]
            # What laying brings above waiting comes in one of place + 1 cases.
            column.append(behind[left] + max(laid - behind[left], Fraction(0)) / (place + 1))
        columns.insert(0, column)
    return [[columns[place][left] / many for place in range(many + 1)] for left in range(hands + 1)]


def one_hand_from(many, first):
    """The share of winning by one hand laid on the first new highest from the place first on."""
    if first == 0:
        return Fraction(1, many)
    return Fraction(first, many) * sum(Fraction(1, place) for place in range(first, many))


class Table(unittest.TestCase):
    def test_plain_ones(self):
        self.assertEqual(table(1, 0), (((0, 1), (0, 1)),))
        self.assertEqual(table(1, 1), (((0, 1), (0, 1)), ((1, 1), (0, 1))))
        self.assertEqual(table(3, 1), (((0, 1),) * 4, ((1, 2), (1, 2), (1, 3), (0, 1))))
        self.assertEqual(table(2, 2), (((0, 1),) * 3, ((1, 2), (1, 2), (0, 1)), ((1, 1), (1, 2), (0, 1))))

    def test_worked_out_another_way(self):
        for many, hands in SIZES + BEYOND:
            found = table(many, hands)
            self.assertTrue(is_told(found))
            self.assertEqual(len(found), hands + 1)
            self.assertTrue(all(is_told_share(share) for row in found for share in row))
            wanted = tuple(tuple(as_share(share) for share in row) for row in by_mends(many, hands))
            self.assertEqual(found, wanted, (many, hands))

    def test_its_ends(self):
        for many, hands in SIZES[::7]:
            found = table(many, hands)
            self.assertEqual(found[0], ((0, 1),) * (many + 1))
            self.assertTrue(all(row[many] == (0, 1) for row in found))
            self.assertEqual(table(many, hands), found)
            self.assertEqual(table(many, hands + 1)[:-1], found)


class BestShare(unittest.TestCase):
    def test_plain_ones(self):
        self.assertEqual(best_share(1, 0), (0, 1))
        self.assertEqual(best_share(1, 1), (1, 1))
        self.assertEqual(best_share(3, 1), (1, 2))
        self.assertEqual(best_share(4, 1), (11, 24))
        self.assertEqual(best_share(2, 2), (1, 1))
        self.assertEqual(best_share(4, 4), (1, 1))

    def test_one_hand_is_laid_from_some_place_on(self):
        for many in range(1, 62):
            wanted = max(one_hand_from(many, first) for first in range(many))
            self.assertEqual(as_fraction(best_share(many, 1)), wanted)

    def test_best_of_all_ways_to_play(self):
        for many in range(1, 7):
            for hands in range(5):
                found = best_share(many, hands)
                self.assertTrue(is_told_share(found))
                self.assertEqual(as_fraction(found), best_of_all_ways(many, hands), (many, hands))

    def test_at_the_bounds(self):
        for many, hands in SIZES + BEYOND:
            found = best_share(many, hands)
            self.assertTrue(is_told_share(found))
            self.assertEqual(as_fraction(found), by_mends(many, hands)[hands][0])
            self.assertEqual(found, table(many, hands)[hands][0])
            self.assertEqual(found == (0, 1), hands == 0)
            self.assertEqual(found == (1, 1), hands >= many)


class Rule(unittest.TestCase):
    def test_plain_ones(self):
        self.assertEqual(rule(5, 0), ())
        self.assertEqual(rule(1, 1), ((0,),))
        self.assertEqual(rule(3, 1), ((1, 2),))
        self.assertEqual(rule(4, 1), ((1, 2, 3),))
        self.assertEqual(rule(10, 3), (tuple(range(3, 10)), tuple(range(2, 10)), tuple(range(1, 10))))

    def test_places_at_which_both_are_alike_belong_to_it(self):
        self.assertEqual(rule(2, 1), ((0, 1),))
        rows = by_mends(2, 1)
        self.assertEqual(Fraction(1, 2) + rows[0][1], rows[1][1])

    def test_worked_out_another_way(self):
        for many, hands in SIZES + BEYOND:
            found = rule(many, hands)
            self.assertIs(type(found), tuple)
            self.assertTrue(all(is_told_order(places) for places in found))
            rows = by_mends(many, hands)
            wanted = tuple(
                tuple(
                    place for place in range(many)
                    if Fraction(place + 1, many) + rows[left - 1][place + 1] >= rows[left][place + 1]
                )
                for left in range(1, hands + 1)
            )
            self.assertEqual(found, wanted, (many, hands))
            self.assertEqual(rule(many, hands), found)

    def test_it_wins_as_often_as_the_best(self):
        for many in range(1, 7):
            for hands in range(5):
                plan = rule(many, hands)
                won = sum(is_won(plan, order) for order in orders_of(many))
                self.assertEqual(Fraction(won, len(orders_of(many))), as_fraction(best_share(many, hands)))


if __name__ == "__main__":
    unittest.main()
