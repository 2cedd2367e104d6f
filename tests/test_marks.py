import unittest
from itertools import product

from shuffletold.counts import count
from shuffletold.marks import both, either, is_machine, marks, meets, opposite
from tests.helper import (
    drawn_machines, drawn_orders, is_met, is_told, is_told_order, long_orders, marks_by_words, nested, orders_to,
    otherwise, wrong_things
)

# They meet the orders that rise throughout, those of an even count of highs, all, and none.
ALL_RISE = (((1, 1, 0, 0), (1, 1, 1, 1)), (0,))
EVEN_HIGHS = (((0, 0, 0, 1), (1, 1, 1, 0)), (1,))
EVERY = (((0, 0, 0, 0),), (0,))
NO_ONE = (((0, 0, 0, 0),), ())
ORDERS = orders_to(6)


def is_one(thing):
    """Whether thing is a machine, by the document's words."""
    if type(thing) is not tuple or len(thing) != 2:
        return False
    rows, ends = thing
    if type(rows) is not tuple or type(ends) is not tuple or rows == ():
        return False
    if any(type(row) is not tuple or len(row) != 4 for row in rows):
        return False
    states = [state for row in rows for state in row] + list(ends)
    if any(type(state) is not int or state not in range(len(rows)) for state in states):
        return False
    return sorted(set(ends)) == list(ends)


class Marks(unittest.TestCase):
    def test_plain_ones(self):
        self.assertEqual(marks(()), ())
        self.assertEqual(marks((0,)), ())
        self.assertEqual(marks((0, 1)), (3,))
        self.assertEqual(marks((1, 0)), (0,))
        self.assertEqual(marks((0, 2, 1)), (3, 1))
        self.assertEqual(marks((2, 0, 1)), (0, 2))
        self.assertEqual(marks((2, 0, 3, 1, 4)), (0, 3, 1, 3))
        self.assertEqual(marks((3, 4, 1, 2, 0)), (3, 0, 2, 0))

    def test_all_orders_of_few_and_long_ones(self):
        for order in ORDERS + long_orders() + drawn_orders(21, (7, 20, 59, 60, 61, 66)):
            found = marks(order)
            self.assertTrue(is_told_order(found))
            self.assertEqual(found, marks_by_words(order), order)
            self.assertEqual(len(found), max(len(order) - 1, 0))
            self.assertEqual(marks(order), found)

    def test_what_marks_tell_of_counts(self):
        for order in ORDERS:
            found = marks(order)
            if order:
                self.assertEqual(1 + found.count(3), count("highs", order))
                self.assertEqual(found.count(2) + found.count(3), count("rises", order))


class IsMachine(unittest.TestCase):
    def test_plain_ones(self):
        for machine in (ALL_RISE, EVEN_HIGHS, EVERY, NO_ONE, (((0, 0, 0, 0), (1, 0, 1, 0)), (0, 1))):
            self.assertIs(is_machine(machine), True, machine)
        for thing in (
            (), ((), ()), ((), (0,)), (((),), ()), (((0, 0, 0, 0),),), (((0, 0, 0, 0),), (), ()), ((0, 0, 0, 0), ()),
            (((0, 0, 0, 1),), ()), (((0, 0, 0, -1),), ()), (((0, 0, 0),), ()), (((0, 0, 0, 0, 0),), ()),
            (((0, 0, 0, 0),), (1,)), (((0, 0, 0, 0),), (-1,)), (((0, 0, 0, 0),), (0, 0)), (((0, 0, 0, 0),), 0),
            (((0, 0, 0, 0),), None), (((0, 0, 0, 0),), "0"), (((0, 0, 0, False),), ()), (((0, 0, 0, 0),), (False,)),
            [((0, 0, 0, 0),), ()], ([(0, 0, 0, 0)], ()), (([0, 0, 0, 0],), ()), (((0, 0, 0, 0),), []),
        ):
            self.assertIs(is_machine(thing), False, thing)

    def test_drawn_ones_of_any_size(self):
        for machine in drawn_machines(22, tuple(range(1, 45)) + (100, 700)):
            self.assertIs(is_machine(machine), True)
            rows, ends = machine
            for thing in (
                list(machine), (list(rows), ends), (rows, list(ends)), (ends, rows), (rows,), (rows, ends, ()),
                ((), ends), (rows[:-1], ends + (len(rows),)), (rows + ((0, 0, 0),), ends),
                (rows + ((0, 0, 0, 0, 0),), ends), (rows + ((),), ends), (rows, ends + (len(rows),)),
                (rows, (-1,) + ends), (rows, None), (None, ends), (rows, {}), ({}, ends), (rows, set(ends)),
                (rows, len(rows) - 1), (tuple(list(row) for row in rows), ends),
            ):
                self.assertIs(is_machine(thing), False, thing)

    def test_one_state_otherwise_at_any_place(self):
        wrongs = (
            -1, -10 ** 40, 10 ** 40, True, False, "0", "", b"\x00", None, (), (0,), [], [0], {}, {0: 0}, set(),
            nested(56, lambda inner: (inner,), 0), nested(56, lambda inner: [inner], 0),
        )
        for rows, ends in drawn_machines(23, (1, 2, 3, 6, 40)):
            ends = ends or (0,)
            for at, row in enumerate(rows):
                for wrong in otherwise(row, wrongs + (len(rows), len(rows) + 1)):
                    self.assertIs(is_machine((rows[:at] + (wrong,) + rows[at + 1:], ends)), False)
                for wrong in (row[:3], row + (0,), row[:1], list(row), None, 0, "0000", b"\x00\x00\x00\x00", {}, True):
                    self.assertIs(is_machine((rows[:at] + (wrong,) + rows[at + 1:], ends)), False)
            for wrong in otherwise(ends, wrongs + (len(rows), len(rows) + 1)):
                self.assertIs(is_machine((rows, wrong)), False)

    def test_ends_that_do_not_rise_or_have_one_twice(self):
        rows = drawn_machines(24, (4,))[0][0]
        for length in range(6):
            for ends in product(range(-1, 5), repeat=length):
                right = list(ends) == sorted(set(ends)) and set(ends) <= set(range(4))
                self.assertIs(is_machine((rows, ends)), right, ends)

    def test_all_of_one_and_two_states_with_numbers_about(self):
        for row in product(range(-1, 2), repeat=4):
            for ends in ((), (0,), (1,)):
                self.assertIs(is_machine(((row,), ends)), is_one(((row,), ends)))
        for row in product(range(-1, 3), repeat=4):
            for ends in ((), (0,), (1,), (0, 1), (1, 0), (1, 1), (2,)):
                for thing in (((row, (0, 1, 0, 1)), ends), (((0, 1, 0, 1), row), ends)):
                    self.assertIs(is_machine(thing), is_one(thing), thing)

    def test_of_things_of_every_kind(self):
        for thing in wrong_things():
            self.assertIs(is_machine(thing), is_one(thing), thing)
        rows = ((0, 0, 0, 0),)
        # One depth is left for the pair itself, one for its rows.
        for thing in wrong_things()[::3]:
            for pair in ((thing, ()), (thing, (0,)), (rows, thing), ((thing,), ()), (thing, thing), (rows, (), thing)):
                self.assertIs(is_machine(pair), is_one(pair), pair)

    def test_nothing_is_changed_and_the_same_is_told_again(self):
        ends = [0]
        thing = (((0, 0, 0, 0),), ends)
        for _ in range(2):
            self.assertIs(is_machine(thing), False)
            self.assertEqual((thing, ends), ((((0, 0, 0, 0),), [0]), [0]))


class Meets(unittest.TestCase):
    def test_plain_ones(self):
        for order in ORDERS:
            self.assertIs(meets(EVERY, order), True)
            self.assertIs(meets(NO_ONE, order), False)
            self.assertIs(meets(ALL_RISE, order), order == tuple(range(len(order))))
            if order:
                self.assertIs(meets(EVEN_HIGHS, order), count("highs", order) % 2 == 0)

    def test_of_none_and_of_one_by_the_first_state(self):
        for machine in drawn_machines(25, (1, 2, 3, 6, 40)):
            for order in ((), (0,)):
                self.assertIs(meets(machine, order), 0 in machine[1])

    def test_drawn_machines_by_the_words(self):
        orders = ORDERS + long_orders() + drawn_orders(26, (7, 20, 59, 60, 61, 66))
        for machine in drawn_machines(27, (1, 2, 3, 5, 6, 40, 44)):
            for order in orders:
                found = meets(machine, order)
                self.assertIs(type(found), bool)
                self.assertIs(found, is_met(machine, order), (machine, order))
            self.assertIs(meets(machine, orders[-1]), found)


class PutTogether(unittest.TestCase):
    def check(self, machine, wanted, states):
        """A machine of at most so many states that meets just the orders wanted."""
        self.assertTrue(is_told(machine) and is_one(machine))
        self.assertIs(is_machine(machine), True)
        self.assertLessEqual(len(machine[0]), states)
        for order in ORDERS:
            self.assertIs(is_met(machine, order), wanted(order), (machine, order))

    def test_opposite(self):
        for machine in [ALL_RISE, EVEN_HIGHS, EVERY, NO_ONE] + drawn_machines(31, (1, 2, 3, 4, 5, 6, 6, 40, 43)):
            found = opposite(machine)
            self.assertEqual(len(found[0]), len(machine[0]))
            self.check(found, lambda order: not is_met(machine, order), len(machine[0]))
            self.check(opposite(found), lambda order: is_met(machine, order), len(machine[0]))

    def test_both_and_either(self):
        ones = [ALL_RISE, EVERY, NO_ONE] + drawn_machines(32, (1, 2, 3, 4, 5, 6, 7))
        others = [EVEN_HIGHS] + drawn_machines(33, (1, 2, 3, 6, 8))
        for one in ones:
            for other in others:
                states = len(one[0]) * len(other[0])
                self.check(both(one, other), lambda order: is_met(one, order) and is_met(other, order), states)
                self.check(either(one, other), lambda order: is_met(one, order) or is_met(other, order), states)

    def test_put_together_again(self):
        one, other = drawn_machines(34, (2, 3))
        found = both(either(one, other), opposite(both(one, other)))
        self.check(found, lambda order: is_met(one, order) != is_met(other, order), 36)
        self.check(both(one, opposite(one)), lambda order: False, 4)
        self.check(either(one, opposite(one)), lambda order: True, 4)

    def test_nothing_is_changed_and_the_same_is_told_again(self):
        one, other = drawn_machines(35, (3, 4))
        kept = drawn_machines(35, (3, 4))
        first = (opposite(one), both(one, other), either(one, other), meets(one, (1, 0, 2)))
        self.assertEqual([one, other], kept)
        self.assertEqual((opposite(one), both(one, other), either(one, other), meets(one, (1, 0, 2))), first)
        self.assertEqual([one, other], kept)


if __name__ == "__main__":
    unittest.main()
