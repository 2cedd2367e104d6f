import unittest
from itertools import permutations
from math import factorial
from random import Random

from shuffletold.machines import met, nth_met, place_met
from shuffletold.marks import both, either, meets, opposite
from shuffletold.told import told
from tests.helper import drawn_machines, drawn_orders, is_met, is_told_order, orders_of, orders_to

EVERY = (((0, 0, 0, 0),), (0,))
NO_ONE = (((0, 0, 0, 0),), ())
FALLING = (((0, 1, 1, 1), (1, 1, 1, 1)), (0,))
MACHINES = [EVERY, NO_ONE, FALLING] + drawn_machines(41, (1, 2, 2, 3, 4, 5, 6, 6, 13, 40, 42))


def counting(marked, states, number):
    """A machine of so many states that meets the orders with just so many of these marks."""
    rows = tuple(
        tuple(min(state + (mark in marked), states - 1) for mark in range(4)) for state in range(states)
    )
    return rows, (number,)


def met_by_ranks(machine, many):
    """How many orders are met, by a dict of states and last ranks, each next rank by itself."""
    found = {(0, 0): 1}
    for size in range(1, many):
        longer = {}
        for (state, last), ways in found.items():
            for rank in range(size + 1):
                mark = 3 if rank == size else 0 if rank == 0 else 2 if rank > last else 1
                going = (machine[0][state][mark], rank)
                longer[going] = longer.get(going, 0) + ways
        found = longer
    return sum(ways for (state, _), ways in found.items() if state in machine[1])


class Met(unittest.TestCase):
    def test_plain_ones(self):
        self.assertEqual([met(EVERY, many) for many in range(6)], [1, 1, 2, 6, 24, 120])
        self.assertEqual([met(NO_ONE, many) for many in range(6)], [0] * 6)
        self.assertEqual([met(FALLING, many) for many in range(6)], [1] * 6)

    def test_of_none_and_of_one_by_the_first_state(self):
        for machine in MACHINES:
            for many in (0, 1):
                self.assertEqual(met(machine, many), int(0 in machine[1]))

    def test_all_orders_of_few(self):
        for machine in MACHINES:
            for many in range(7):
                found = met(machine, many)
                self.assertIs(type(found), int)
                self.assertEqual(found, len([1 for order in orders_of(many) if is_met(machine, order)]))

    def test_machines_that_count_rises_or_highs_as_told(self):
        for many in (2, 3, 7, 12, 30, 39, 40, 41):
            # Beyond so many of the marks the last state holds, so it is never asked.
            for number in range(0, many, 1 if many < 12 else 5):
                rises = counting((2, 3), many + 1, number)
                self.assertEqual(met(rises, many), told("rises", many)[number], (many, number))
                highs = counting((3,), many + 1, number)
                self.assertEqual(met(highs, many), told("highs", many)[number + 1], (many, number))
                lows = counting((0,), many + 1, number)
                self.assertEqual(met(lows, many), told("highs", many)[number + 1], (many, number))
                falls = counting((0, 1), many + 1, number)
                self.assertEqual(met(falls, many), told("rises", many)[number], (many, number))

    def test_counting_machines_of_forty_states_at_forty(self):
        for number in (0, 1, 5, 20, 38, 39):
            self.assertEqual(met(counting((2, 3), 40, number), 40), told("rises", 40)[number])
            self.assertEqual(met(counting((3,), 40, number), 40), told("highs", 40)[number + 1])

    def test_drawn_machines_by_another_way_to_the_bound_and_beyond(self):
        for machine in MACHINES:
            for many in (7, 8, 15, 40, 43) if len(machine[0]) < 7 else (7, 12, 20):
                self.assertEqual(met(machine, many), met_by_ranks(machine, many), (machine, many))

    def test_put_together_at_the_bound(self):
        ones = drawn_machines(42, (2, 3, 6))
        others = drawn_machines(43, (3, 5, 6))
        for many in (0, 1, 5, 39, 40, 41):
            for one, other in zip(ones, others):
                self.assertEqual(met(one, many) + met(opposite(one), many), factorial(many))
                self.assertEqual(
                    met(both(one, other), many) + met(either(one, other), many), met(one, many) + met(other, many)
                )

    def test_the_same_is_told_again(self):
        for machine in MACHINES:
            first = met(machine, 9)
            met(machine, 10)
            self.assertEqual(met(machine, 9), first)


class NthMetAndPlaceMet(unittest.TestCase):
    def test_plain_ones(self):
        self.assertEqual([nth_met(EVERY, 2, at) for at in range(3)], [(0, 1), (1, 0), None])
        self.assertIsNone(nth_met(NO_ONE, 2, 0))
        self.assertEqual([nth_met(FALLING, 4, at) for at in range(2)], [(3, 2, 1, 0), None])
        one_high = counting((3,), 3, 0)
        self.assertEqual([nth_met(one_high, 3, at) for at in range(3)], [(2, 0, 1), (2, 1, 0), None])
        self.assertEqual(place_met(one_high, (2, 1, 0)), 1)

    def test_of_none_and_of_one(self):
        for machine in MACHINES:
            for order in ((), (0,)):
                if 0 in machine[1]:
                    self.assertEqual(nth_met(machine, len(order), 0), order)
                    self.assertEqual(place_met(machine, order), 0)
                    self.assertIsNone(nth_met(machine, len(order), 1))
                else:
                    self.assertIsNone(nth_met(machine, len(order), 0))

    def test_all_of_few_listed(self):
        for machine in MACHINES[:10]:
            for many in range(6):
                listed = [order for order in orders_of(many) if is_met(machine, order)]
                self.assertEqual([nth_met(machine, many, at) for at in range(len(listed))], listed)
                self.assertEqual([place_met(machine, order) for order in listed], list(range(len(listed))))
                for at in (len(listed), len(listed) + 1, factorial(many), 10 ** 60):
                    self.assertIsNone(nth_met(machine, many, at))

    def test_those_of_six_and_seven_listed(self):
        for machine in MACHINES:
            for many in (6, 7):
                listed = [order for order in permutations(range(many)) if is_met(machine, order)]
                for at in range(0, len(listed), 1 + len(listed) // 20):
                    self.assertEqual(nth_met(machine, many, at), listed[at])
                    self.assertEqual(place_met(machine, listed[at]), at)
                self.assertIsNone(nth_met(machine, many, len(listed)))

    def test_at_the_bound_back_and_forth(self):
        draw = Random(44)
        for machine in MACHINES[:12]:
            for many in (11, 12, 13):
                orders = met(machine, many)
                if orders:
                    some = draw.randrange(orders)
                    asked = sorted({0, some, min(some + 1, orders - 1), orders - 1})
                    found = [nth_met(machine, many, at) for at in asked]
                    for at, order in zip(asked, found):
                        self.assertTrue(is_told_order(order))
                        self.assertEqual(sorted(order), list(range(many)))
                        self.assertTrue(is_met(machine, order) and meets(machine, order))
                        self.assertEqual(place_met(machine, order), at)
                    self.assertEqual(found, sorted(set(found)))
                for at in (orders, orders + 1, 10 ** 60):
                    self.assertIsNone(nth_met(machine, many, at))

    def test_a_machine_of_forty_states_and_more_at_the_bound(self):
        for machine in MACHINES[-2:]:
            for many in (12, 14):
                orders = met(machine, many)
                for at in (0, orders // 3, orders - 1):
                    order = nth_met(machine, many, at)
                    self.assertTrue(is_met(machine, order))
                    self.assertEqual(place_met(machine, order), at)
                self.assertIsNone(nth_met(machine, many, orders))

    def test_drawn_orders_there_and_back(self):
        for machine in MACHINES[:11]:
            for order in drawn_orders(45, (9, 11, 12, 12, 13)):
                if is_met(machine, order):
                    at = place_met(machine, order)
                    self.assertIs(type(at), int)
                    self.assertEqual(nth_met(machine, len(order), at), order)

    def test_all_orders_by_the_machine_that_meets_every(self):
        for order in orders_to(5):
            listed = orders_of(len(order))
            self.assertEqual(place_met(EVERY, order), listed.index(order))

    def test_nothing_is_changed_and_the_same_is_told_again(self):
        machine, kept = drawn_machines(46, (5,))[0], drawn_machines(46, (5,))[0]
        order = next(order for order in orders_of(6) if is_met(machine, order))
        first = (nth_met(machine, 6, 2), place_met(machine, order), met(machine, 6))
        self.assertEqual(machine, kept)
        self.assertEqual((nth_met(machine, 6, 2), place_met(machine, order), met(machine, 6)), first)


if __name__ == "__main__":
    unittest.main()
