import unittest
from fractions import Fraction
from itertools import combinations, product
from random import Random

from shuffletold.plays import rule_share, wins
from shuffletold.stopping import best_share, rule
from tests.helper import (
    as_fraction, best_of_all_ways, drawn_orders, is_told_share, is_won, long_orders, orders_of
)


def drawn_plans(seed, many, beyond, number):
    """So many rules of none to four tuples, of places below many and some beyond it."""
    draw = Random(seed)
    return [
        tuple(
            tuple(sorted(draw.sample(range(many + beyond), draw.randrange(many + beyond + 1))))
            for _ in range(draw.randrange(5))
        )
        for _ in range(number)
    ]


def share_forwards(many, plan):
    """The share of the orders in which plan wins, by how many hands are left ahead of each place."""
    left = {len(plan): Fraction(1)}
    won = Fraction(0)
    for place in range(many):
        # Where the greatest of all is at this place, those ahead come in any order, as ever.
        laying = sum(share for hands, share in left.items() if hands and place in plan[hands - 1])
        won += laying * Fraction(1, many)
        later = {}
        for hands, share in left.items():
            highest = Fraction(1, place + 1)
            fewer = hands - 1 if hands and place in plan[hands - 1] else hands
            later[hands] = later.get(hands, Fraction(0)) + share * (1 - highest)
            later[fewer] = later.get(fewer, Fraction(0)) + share * highest
        left = later
    return won


def seen_ahead(many):
    """All ways in which from one to so many things can stand among themselves."""
    return [order for size in range(1, many + 1) for order in orders_of(size)]


def ranked(numbers):
    """How these numbers stand among themselves."""
    return tuple(sorted(numbers).index(number) for number in numbers)


def is_won_by_way(way, hands, order):
    """Whether who lays a hand whenever what is seen is in way, as long as one is left, wins."""
    left, laid = hands, []
    for place, number in enumerate(order):
        if left and ranked(order[:place + 1]) in way:
            laid.append(number)
            left -= 1
    return max(order) in laid


class Wins(unittest.TestCase):
    def test_plain_ones(self):
        self.assertIs(wins((), (0,)), False)
        self.assertIs(wins(((),), (0,)), False)
        self.assertIs(wins(((0,),), (0,)), True)
        self.assertIs(wins(((1, 2),), (1, 0, 2)), True)
        self.assertIs(wins(((1, 2),), (0, 1, 2)), False)
        self.assertIs(wins(((1, 2),), (2, 0, 1)), False)
        self.assertIs(wins(((2,), (0,)), (0, 1, 2)), True)
        self.assertIs(wins(((0,), (2,)), (0, 1, 2)), True)
        self.assertIs(wins(((0, 1), (2,)), (0, 2, 1)), False)

    def test_by_none_never(self):
        for many in range(1, 6):
            for order in orders_of(many):
                self.assertIs(wins((), order), False)
                self.assertIs(wins(((), (), ()), order), False)

    def test_all_orders_of_few_by_drawn_plans(self):
        for many in range(1, 7):
            for plan in drawn_plans(many, many, 3, 25):
                for order in orders_of(many):
                    self.assertIs(wins(plan, order), is_won(plan, order), (plan, order))

    def test_all_plans_of_few(self):
        places = [chosen for size in range(4) for chosen in combinations(range(3), size)]
        for hands in range(4):
            for plan in product(places, repeat=hands):
                for order in orders_of(3):
                    self.assertIs(wins(plan, order), is_won(plan, order), (plan, order))

    def test_long_orders(self):
        orders = long_orders() + drawn_orders(81, list(range(1, 67)) * 3)
        for order in orders:
            for plan in drawn_plans(len(order), len(order), 10, 8) + [rule(40, hands) for hands in (1, 2, 4)]:
                self.assertIs(wins(plan, order), is_won(plan, order), (plan, order))

    def test_nothing_is_changed(self):
        plan, order = ((1, 2), (0, 1)), (1, 0, 2)
        kept = (tuple(tuple(list(places)) for places in plan), tuple(list(order)))
        self.assertIs(wins(plan, order), wins(plan, order))
        self.assertEqual(rule_share(3, plan), rule_share(3, plan))
        self.assertEqual((plan, order), kept)


class RuleShare(unittest.TestCase):
    def test_plain_ones(self):
        self.assertEqual(rule_share(1, ()), (0, 1))
        self.assertEqual(rule_share(1, ((0,),)), (1, 1))
        self.assertEqual(rule_share(3, ((1, 2),)), (1, 2))
        self.assertEqual(rule_share(4, ((0,),)), (1, 4))
        self.assertEqual(rule_share(4, ((), (0, 1, 2, 3))), (1, 4))
        self.assertEqual(rule_share(2, ((0, 1), (0, 1))), (1, 1))
        self.assertEqual(rule_share(4, ((4, 5, 10 ** 30),)), (0, 1))

    def test_all_orders_of_few_one_by_one(self):
        for many in range(1, 7):
            orders = orders_of(many)
            for plan in drawn_plans(90 + many, many, 3, 25):
                won = sum(is_won(plan, order) for order in orders)
                found = rule_share(many, plan)
                self.assertTrue(is_told_share(found))
                self.assertEqual(as_fraction(found), Fraction(won, len(orders)), (many, plan))
                self.assertEqual(Fraction(sum(wins(plan, order) for order in orders), len(orders)), as_fraction(found))

    def test_many_things_another_way(self):
        for many in (7, 10, 20, 39, 40, 41, 60):
            for plan in drawn_plans(many, many, 5, 12):
                found = rule_share(many, plan)
                self.assertTrue(is_told_share(found))
                self.assertEqual(as_fraction(found), share_forwards(many, plan), (many, plan))

    def test_the_told_rule_wins_just_so_often(self):
        for many in range(1, 41):
            for hands in range(5):
                self.assertEqual(rule_share(many, rule(many, hands)), best_share(many, hands))

    def test_never_above_the_best(self):
        for many in (1, 2, 3, 5, 8, 40):
            for plan in drawn_plans(100 + many, many, 2, 30):
                self.assertLessEqual(as_fraction(rule_share(many, plan)), as_fraction(best_share(many, len(plan))))


class AllWaysToPlay(unittest.TestCase):
    def test_each_way_of_few_things(self):
        for many in (1, 2, 3):
            seen = seen_ahead(many)
            orders = orders_of(many)
            for hands in range(4):
                best = as_fraction(best_share(many, hands)) * len(orders)
                greatest = 0
                for chosen in product((False, True), repeat=len(seen)):
                    way = {pattern for pattern, taken in zip(seen, chosen) if taken}
                    won = sum(is_won_by_way(way, hands, order) for order in orders)
                    self.assertLessEqual(won, best, (many, hands, way))
                    greatest = max(greatest, won)
                self.assertEqual(greatest, best)

    def test_drawn_ways_of_more(self):
        draw = Random(82)
        for many in (4, 5):
            seen = seen_ahead(many)
            orders = orders_of(many)
            for hands in range(5):
                best = as_fraction(best_share(many, hands)) * len(orders)
                for _ in range(20):
                    way = set(draw.sample(seen, draw.randrange(len(seen) + 1)))
                    self.assertLessEqual(sum(is_won_by_way(way, hands, order) for order in orders), best)

    def test_the_best_of_all_ways(self):
        for many in range(1, 6):
            for hands in range(5):
                self.assertEqual(best_of_all_ways(many, hands), as_fraction(rule_share(many, rule(many, hands))))


if __name__ == "__main__":
    unittest.main()
