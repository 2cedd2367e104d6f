import unittest

from shuffletold.counts import count
from shuffletold.rounds import rounds_of, unwritten, written
from tests.helper import is_told, is_told_order, long_orders, orders_of, orders_to


def highs_of(order):
    """The places at which more stands than at each place ahead, told apart from the program."""
    return [place for place, number in enumerate(order) if all(ahead < number for ahead in order[:place])]


class RoundsOf(unittest.TestCase):
    def test_plain_ones(self):
        self.assertEqual(rounds_of(()), ())
        self.assertEqual(rounds_of((0,)), ((0,),))
        self.assertEqual(rounds_of((0, 1, 2)), ((0,), (1,), (2,)))
        self.assertEqual(rounds_of((1, 2, 0)), ((0, 1, 2),))
        self.assertEqual(rounds_of((2, 0, 1)), ((0, 2, 1),))
        self.assertEqual(rounds_of((2, 0, 1, 3)), ((0, 2, 1), (3,)))
        self.assertEqual(rounds_of((3, 4, 2, 0, 5, 1)), ((0, 3), (1, 4, 5), (2,)))

    def check(self, order):
        found = rounds_of(order)
        self.assertIs(type(found), tuple)
        self.assertTrue(all(is_told_order(numbers) for numbers in found))
        self.assertEqual(list(found), sorted(found))
        self.assertEqual(sorted(number for numbers in found for number in numbers), list(range(len(order))))
        for numbers in found:
            self.assertEqual(numbers[0], min(numbers))
            for at in range(1, len(numbers)):
                self.assertEqual(numbers[at], order[numbers[at - 1]])
            self.assertEqual(numbers[0], order[numbers[len(numbers) - 1]])

    def test_every_small_order_number_by_number(self):
        for order in orders_to(6):
            self.check(order)

    def test_long_orders_number_by_number(self):
        for order in long_orders():
            self.check(order)

    def test_of_sixty_in_one_round_and_in_sixty(self):
        once_on = tuple(range(1, 60)) + (0,)
        self.assertEqual(rounds_of(once_on), (tuple(range(60)),))
        self.assertEqual(rounds_of(tuple(range(60))), tuple((number,) for number in range(60)))


class Written(unittest.TestCase):
    def test_plain_ones(self):
        self.assertEqual(written(()), ())
        self.assertEqual(written((0,)), (0,))
        self.assertEqual(written((0, 1, 2)), (0, 1, 2))
        self.assertEqual(written((1, 2, 0)), (2, 0, 1))
        self.assertEqual(written((2, 0, 1)), (2, 1, 0))
        self.assertEqual(written((2, 0, 1, 3)), (2, 1, 0, 3))
        self.assertEqual(written((3, 4, 2, 0, 5, 1)), (2, 3, 0, 5, 1, 4))

    def check(self, order):
        found = written(order)
        self.assertTrue(is_told_order(found))
        self.assertEqual(sorted(found), list(range(len(order))))
        # Cut where a number is above all ahead, it falls into the rounds, each from its greatest on.
        cuts = highs_of(found) + [len(found)]
        rows = [found[cuts[at]:cuts[at + 1]] for at in range(len(cuts) - 1)]
        greatest = [row[0] for row in rows]
        self.assertEqual(greatest, sorted(greatest))
        for row in rows:
            self.assertEqual(row[0], max(row))
            for at, number in enumerate(row):
                self.assertEqual(order[number], row[(at + 1) % len(row)])

    def test_every_small_order_number_by_number(self):
        for order in orders_to(6):
            self.check(order)

    def test_long_orders_number_by_number(self):
        for order in long_orders():
            self.check(order)

    def test_as_many_highs_as_the_order_has_rounds(self):
        for order in orders_to(6) + long_orders():
            self.assertEqual(count("highs", written(order)), count("rounds", order))
            self.assertEqual(len(highs_of(written(order))), len(rounds_of(order)))

    def test_each_order_is_written_of_just_one(self):
        for many in range(7):
            self.assertEqual(sorted(written(order) for order in orders_of(many)), orders_of(many))


class Unwritten(unittest.TestCase):
    def test_plain_ones(self):
        self.assertEqual(unwritten(()), ())
        self.assertEqual(unwritten((0,)), (0,))
        self.assertEqual(unwritten((2, 0, 1)), (1, 2, 0))
        self.assertEqual(unwritten((2, 1, 0, 3)), (2, 0, 1, 3))
        self.assertEqual(unwritten((2, 3, 0, 5, 1, 4)), (3, 4, 2, 0, 5, 1))

    def test_both_undo_one_another(self):
        for order in orders_to(6) + long_orders():
            self.assertEqual(unwritten(written(order)), order)
            self.assertEqual(written(unwritten(order)), order)
            self.assertTrue(is_told_order(unwritten(order)))

    def test_as_many_rounds_as_the_order_has_highs(self):
        for order in orders_to(6) + long_orders():
            self.assertEqual(count("rounds", unwritten(order)), count("highs", order))


class WhatIsTold(unittest.TestCase):
    def test_nothing_is_changed_and_the_same_is_told_again(self):
        for made in (rounds_of, written, unwritten):
            for order in orders_to(5):
                kept = tuple(list(order))
                first = made(order)
                self.assertEqual(order, kept)
                self.assertEqual(made(order), first)
                self.assertTrue(is_told(first))


if __name__ == "__main__":
    unittest.main()
