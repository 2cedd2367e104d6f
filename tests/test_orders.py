import unittest
from copy import deepcopy
from itertools import product

from shuffletold.orders import above, after, all_orders, beside, is_order, mirrored, turned, undone
from tests.helper import is_told, is_told_order, long_orders, orders_of, orders_to, wrong_things


class IsOrder(unittest.TestCase):
    def test_every_small_order_is_one(self):
        for order in orders_to(6):
            self.assertIs(is_order(order), True, order)

    def test_long_orders_are(self):
        for order in long_orders():
            self.assertIs(is_order(order), True)

    def test_of_none_and_of_one(self):
        self.assertIs(is_order(()), True)
        self.assertIs(is_order((0,)), True)

    def test_wrong_things_are_not(self):
        for thing in wrong_things():
            self.assertIs(is_order(thing), False, repr(thing)[:200])

    def test_every_tuple_of_few_small_numbers(self):
        for many in range(5):
            for thing in product(range(-2, many + 2), repeat=many):
                self.assertIs(is_order(thing), sorted(thing) == list(range(many)), thing)

    def test_one_wrong_thing_within_an_order(self):
        for order in orders_to(4):
            for place, number in enumerate(order):
                for wrong in (number == 1, None, str(number), (number,), [number], {}, -1, len(order), -number - 1):
                    thing = order[:place] + (wrong,) + order[place + 1:]
                    self.assertIs(is_order(thing), False, thing)

    def test_one_number_twice(self):
        for order in orders_to(4):
            for place in range(len(order)):
                for number in range(len(order)):
                    thing = order[:place] + (number,) + order[place + 1:]
                    self.assertIs(is_order(thing), order[place] == number, thing)

    def test_lists_of_orders_numbers_are_not(self):
        for order in orders_to(4):
            self.assertIs(is_order(list(order)), False, order)

    def test_of_any_size(self):
        rising = tuple(range(200000))
        self.assertIs(is_order(rising), True)
        self.assertIs(is_order(rising[::-1]), True)
        self.assertIs(is_order(rising + (0,)), False)
        self.assertIs(is_order(rising[1:]), False)
        self.assertIs(is_order(rising[:-1] + (None,)), False)
        self.assertIs(is_order(list(rising)), False)

    def test_nothing_is_changed_and_the_same_is_told_again(self):
        for thing in wrong_things() + orders_to(4):
            kept = deepcopy(thing)
            first = is_order(thing)
            self.assertEqual(thing, kept)
            self.assertIs(is_order(thing), first)


class AllOrders(unittest.TestCase):
    def test_of_none_and_of_few(self):
        self.assertEqual(all_orders(0), ((),))
        self.assertEqual(all_orders(1), ((0,),))
        self.assertEqual(all_orders(2), ((0, 1), (1, 0)))
        self.assertEqual(all_orders(3), ((0, 1, 2), (0, 2, 1), (1, 0, 2), (1, 2, 0), (2, 0, 1), (2, 1, 0)))

    def test_all_rising_to_six_and_somewhat_beyond(self):
        for many, orders in enumerate((1, 1, 2, 6, 24, 120, 720, 5040)):
            found = all_orders(many)
            self.assertEqual(len(found), orders)
            self.assertEqual(found, tuple(sorted(set(orders_of(many)))))

    def test_kind_of_what_is_told(self):
        for many in range(7):
            found = all_orders(many)
            self.assertIs(type(found), tuple)
            self.assertTrue(all(is_told_order(order) for order in found))

    def test_asked_again(self):
        for many in range(7):
            self.assertEqual(all_orders(many), all_orders(many))


class OfOneOrder(unittest.TestCase):
    def test_plain_ones(self):
        self.assertEqual(undone((2, 0, 1)), (1, 2, 0))
        self.assertEqual(undone((1, 3, 0, 2)), (2, 0, 3, 1))
        self.assertEqual(mirrored((2, 0, 1)), (1, 0, 2))
        self.assertEqual(turned((2, 0, 1)), (0, 2, 1))
        self.assertEqual(turned((0, 3, 1, 2)), (3, 0, 2, 1))

    def test_of_none_and_of_one(self):
        for made in (undone, mirrored, turned):
            self.assertEqual(made(()), ())
            self.assertEqual(made((0,)), (0,))

    def check(self, order):
        many = len(order)
        back, behind, over = undone(order), mirrored(order), turned(order)
        for found in (back, behind, over):
            self.assertTrue(is_told_order(found))
            self.assertEqual(sorted(found), list(range(many)))
        for place in range(many):
            self.assertEqual(back[place], order.index(place))
            self.assertEqual(behind[place], order[many - 1 - place])
            self.assertEqual(over[place], many - 1 - order[place])

    def test_every_small_order_place_by_place(self):
        for order in orders_to(6):
            self.check(order)

    def test_long_orders_place_by_place(self):
        for order in long_orders():
            self.check(order)

    def test_each_undoes_itself(self):
        for order in orders_to(5) + long_orders():
            for made in (undone, mirrored, turned):
                self.assertEqual(made(made(order)), order)

    def test_nothing_is_changed_and_the_same_is_told_again(self):
        for order in orders_to(4):
            for made in (undone, mirrored, turned):
                kept = tuple(list(order))
                first = made(order)
                self.assertEqual(order, kept)
                self.assertEqual(made(order), first)


class After(unittest.TestCase):
    def test_plain_ones(self):
        self.assertEqual(after((1, 2, 0), (0, 2, 1)), (1, 0, 2))
        self.assertEqual(after((0, 2, 1), (1, 2, 0)), (2, 1, 0))
        self.assertEqual(after((), ()), ())
        self.assertEqual(after((0,), (0,)), (0,))

    def check(self, one, other):
        found = after(one, other)
        self.assertTrue(is_told_order(found))
        self.assertEqual(len(found), len(one))
        for place in range(len(one)):
            self.assertEqual(found[place], one[other[place]])

    def test_every_two_small_orders_place_by_place(self):
        for many in range(6):
            for one in orders_of(many):
                for other in orders_of(many):
                    self.check(one, other)

    def test_long_orders_place_by_place(self):
        for one in long_orders():
            for other in long_orders():
                if len(one) == len(other):
                    self.check(one, other)

    def test_with_undone(self):
        for order in orders_to(5) + long_orders():
            still = tuple(range(len(order)))
            self.assertEqual(after(order, undone(order)), still)
            self.assertEqual(after(undone(order), order), still)
            self.assertEqual(after(order, still), order)
            self.assertEqual(after(still, order), order)

    def test_nothing_is_changed_and_the_same_is_told_again(self):
        for one in orders_of(4):
            for other in orders_of(4):
                kept = tuple(list(one)), tuple(list(other))
                first = after(one, other)
                self.assertEqual((one, other), kept)
                self.assertEqual(after(one, other), first)


class TwoTogether(unittest.TestCase):
    def test_plain_ones(self):
        self.assertEqual(beside((1, 0), (0, 2, 1)), (1, 0, 2, 4, 3))
        self.assertEqual(above((1, 0), (0, 2, 1)), (4, 3, 0, 2, 1))
        self.assertEqual(beside((0,), (0,)), (0, 1))
        self.assertEqual(above((0,), (0,)), (1, 0))

    def test_where_one_is_of_none(self):
        for made in (beside, above):
            self.assertEqual(made((), ()), ())
            for order in orders_to(4) + long_orders():
                self.assertEqual(made((), order), order)
                self.assertEqual(made(order, ()), order)

    def check(self, one, other):
        ahead, behind = len(one), len(other)
        side, top = beside(one, other), above(one, other)
        for found in (side, top):
            self.assertTrue(is_told_order(found))
            self.assertEqual(sorted(found), list(range(ahead + behind)))
        for place in range(ahead):
            self.assertEqual(side[place], one[place])
            self.assertEqual(top[place], one[place] + behind)
        for place in range(behind):
            self.assertEqual(side[ahead + place], other[place] + ahead)
            self.assertEqual(top[ahead + place], other[place])

    def test_every_two_small_orders_place_by_place(self):
        for one in orders_to(4):
            for other in orders_to(4):
                self.check(one, other)

    def test_of_sixty_together_and_somewhat_more(self):
        thirty = tuple((11 + 7 * place) % 30 for place in range(30))
        for one in [thirty, (0,), (1, 0)] + long_orders():
            self.check(one, thirty)
            self.check(thirty, one)

    def test_nothing_is_changed_and_the_same_is_told_again(self):
        for made in (beside, above):
            for one in orders_to(3):
                for other in orders_to(3):
                    kept = tuple(list(one)), tuple(list(other))
                    first = made(one, other)
                    self.assertEqual((one, other), kept)
                    self.assertEqual(made(one, other), first)


class WhatIsTold(unittest.TestCase):
    def test_orders_told_may_be_handed_in_again(self):
        for order in all_orders(4):
            for found in (undone(order), mirrored(order), turned(order), after(order, order),
                          beside(order, order), above(order, order)):
                self.assertIs(is_order(found), True)
                self.assertTrue(is_told(found))


if __name__ == "__main__":
    unittest.main()
