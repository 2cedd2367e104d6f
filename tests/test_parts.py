import unittest
from fractions import Fraction
from itertools import permutations
from math import factorial

from shuffletold.counts import count
from shuffletold.parts import both_share, has, one_share, parts
from tests.helper import STEP_KINDS, drawn_orders, is_told, is_told_share, long_orders, orders_of, orders_to

FAR = (7, 8, 24, 59, 60, 61, 70)


def is_part(kind, part, many):
    """Whether part is one of kind, of so many, by the document's words."""
    if kind == "crossed":
        return len(part) == 2 and 0 <= part[0] < part[1] < many
    return len(part) == 1 and 0 <= part[0] < (many - 1 if kind == "rises" else many)


def had(kind, part, order):
    """Whether order has part, by the document's words."""
    k = part[0]
    if kind == "rounds":
        found = [k]
        while order[found[-1]] != k:
            found.append(order[found[-1]])
        return max(found) == k
    if kind == "stays":
        return order[k] == k
    if kind == "rises":
        return order[k] < order[k + 1]
    if kind == "highs":
        return max(order[:k + 1]) == order[k]
    return order[k] > order[part[1]]


def had_by(kind, many):
    """Each part, and the numbers, among all orders of so many, of those that have it."""
    orders = orders_of(many)
    return {
        part: {at for at, order in enumerate(orders) if had(kind, part, order)} for part in parts(kind, many)
    }


class Parts(unittest.TestCase):
    def test_plain_ones(self):
        for kind in ("rounds", "stays", "highs"):
            self.assertEqual(parts(kind, 3), ((0,), (1,), (2,)))
        self.assertEqual(parts("rises", 3), ((0,), (1,)))
        self.assertEqual(parts("crossed", 3), ((0, 1), (0, 2), (1, 2)))

    def test_of_none_one_and_two(self):
        for kind in STEP_KINDS:
            self.assertEqual(parts(kind, 0), ())
        self.assertEqual([parts(kind, 1) for kind in STEP_KINDS], [((0,),), ((0,),), (), ((0,),), ()])
        self.assertEqual(
            [parts(kind, 2) for kind in STEP_KINDS], [((0,), (1,)), ((0,), (1,)), ((0,),), ((0,), (1,)), ((0, 1),)]
        )

    def test_all_parts_rising_and_nothing_else(self):
        for kind in STEP_KINDS:
            for many in tuple(range(7)) + FAR:
                found = parts(kind, many)
                self.assertTrue(type(found) is tuple and is_told(found))
                self.assertEqual(list(found), sorted(set(found)), (kind, many))
                self.assertTrue(all(is_part(kind, part, many) for part in found))
                as_many = {"rises": max(many - 1, 0), "crossed": many * (many - 1) // 2}.get(kind, many)
                self.assertEqual(len(found), as_many, (kind, many))

    def test_the_same_is_told_again(self):
        for kind in STEP_KINDS:
            first = parts(kind, 9)
            parts(kind, 11)
            self.assertEqual(parts(kind, 9), first)


class Has(unittest.TestCase):
    def test_plain_ones(self):
        order = (2, 0, 1, 3)
        self.assertEqual([has("rounds", (k,), order) for k in range(4)], [False, False, True, True])
        self.assertEqual([has("stays", (k,), order) for k in range(4)], [False, False, False, True])
        self.assertEqual([has("rises", (k,), order) for k in range(3)], [False, True, True])
        self.assertEqual([has("highs", (k,), order) for k in range(4)], [True, False, False, True])
        self.assertEqual(
            [has("crossed", part, order) for part in parts("crossed", 4)], [True, True, False, False, False, False]
        )

    def check(self, order):
        """Each part of each kind, against the document's words, and as many as the count."""
        for kind in STEP_KINDS:
            found = [has(kind, part, order) for part in parts(kind, len(order))]
            self.assertTrue(all(type(truth) is bool for truth in found))
            self.assertEqual(found, [had(kind, part, order) for part in parts(kind, len(order))], (kind, order))
            self.assertEqual(sum(found), count(kind, order), (kind, order))

    def test_all_orders_of_few(self):
        for order in orders_to(6):
            self.check(order)

    def test_long_orders(self):
        for order in long_orders() + drawn_orders(1, (7, 20, 59, 60, 60, 63)):
            self.check(order)

    def test_nothing_is_changed_and_the_same_is_told_again(self):
        for kind in STEP_KINDS:
            order, part = (3, 1, 4, 0, 2), (1, 2) if kind == "crossed" else (1,)
            kept = (tuple(list(order)), tuple(list(part)))
            first = has(kind, part, order)
            self.assertEqual((order, part), kept)
            self.assertIs(has(kind, part, order), first)


class OneShare(unittest.TestCase):
    def test_plain_ones(self):
        self.assertEqual([one_share("rounds", 4, (k,)) for k in range(4)], [(1, 4), (1, 3), (1, 2), (1, 1)])
        self.assertEqual([one_share("stays", 4, (k,)) for k in range(4)], [(1, 4)] * 4)
        self.assertEqual([one_share("rises", 4, (k,)) for k in range(3)], [(1, 2)] * 3)
        self.assertEqual([one_share("highs", 4, (k,)) for k in range(4)], [(1, 1), (1, 2), (1, 3), (1, 4)])
        self.assertEqual([one_share("crossed", 4, part) for part in parts("crossed", 4)], [(1, 2)] * 6)

    def test_all_orders_of_few(self):
        for kind in STEP_KINDS:
            for many in range(7):
                for part, orders in had_by(kind, many).items():
                    found = one_share(kind, many, part)
                    self.assertTrue(is_told_share(found))
                    self.assertEqual(Fraction(*found), Fraction(len(orders), factorial(many)), (kind, many, part))

    def test_of_many(self):
        for many in FAR:
            for kind in STEP_KINDS:
                for part in parts(kind, many):
                    wanted = {
                        "rounds": Fraction(1, many - part[0]),
                        "stays": Fraction(1, many),
                        "highs": Fraction(1, part[0] + 1),
                    }.get(kind, Fraction(1, 2))
                    found = one_share(kind, many, part)
                    self.assertTrue(is_told_share(found))
                    self.assertEqual(Fraction(*found), wanted, (kind, many, part))

    def test_the_same_is_told_again(self):
        for kind in STEP_KINDS:
            part = parts(kind, 9)[3]
            first = one_share(kind, 9, part)
            one_share(kind, 10, part)
            self.assertEqual(one_share(kind, 9, part), first)


def places_share(kind, one, other):
    """The share of both parts of rises or crossed, by all orders of just the places that they speak of."""
    pairs = [(part[0], part[0] + 1) if kind == "rises" else part[::-1] for part in (one, other)]
    places = sorted(set(pairs[0] + pairs[1]))
    orders = [dict(zip(places, numbers)) for numbers in permutations(range(len(places)))]
    return Fraction(len([1 for at in orders if all(at[less] < at[more] for less, more in pairs)]), len(orders))


class BothShare(unittest.TestCase):
    def test_plain_ones(self):
        self.assertEqual(both_share("rounds", 4, (0,), (1,)), (1, 12))
        self.assertEqual(both_share("stays", 4, (3,), (1,)), (1, 12))
        self.assertEqual(both_share("rises", 4, (0,), (1,)), (1, 6))
        self.assertEqual(both_share("rises", 4, (2,), (0,)), (1, 4))
        self.assertEqual(both_share("highs", 4, (3,), (1,)), (1, 8))
        self.assertEqual(both_share("crossed", 4, (0, 1), (0, 2)), (1, 3))
        self.assertEqual(both_share("crossed", 4, (0, 3), (1, 3)), (1, 3))
        self.assertEqual(both_share("crossed", 4, (1, 2), (0, 1)), (1, 6))
        self.assertEqual(both_share("crossed", 4, (0, 3), (1, 2)), (1, 4))

    def test_every_two_by_all_orders_of_few(self):
        for kind in STEP_KINDS:
            for many in range(7):
                owners = had_by(kind, many)
                for one, first in owners.items():
                    for other, second in owners.items():
                        found = both_share(kind, many, one, other)
                        self.assertTrue(is_told_share(found))
                        self.assertEqual(
                            Fraction(*found), Fraction(len(first & second), factorial(many)), (kind, many, one, other)
                        )

    def test_one_with_itself_is_that_one(self):
        for kind in STEP_KINDS:
            for many in FAR:
                for part in parts(kind, many)[::7]:
                    self.assertEqual(both_share(kind, many, part, tuple(list(part))), one_share(kind, many, part))

    def test_rises_and_crossed_of_more_by_the_places_they_speak_of(self):
        for kind, sizes in (("rises", (7, 8, 60, 63)), ("crossed", (7, 8))):
            for many in sizes:
                for one in parts(kind, many):
                    for other in parts(kind, many):
                        found = both_share(kind, many, one, other)
                        self.assertTrue(is_told_share(found))
                        self.assertEqual(Fraction(*found), places_share(kind, one, other), (many, one, other))

    def test_crossed_at_the_bound_touching_or_not(self):
        for many in (60, 64):
            last = many - 1
            asked = ((0, 1), (0, last), (1, 2), (1, last), (2, 3), (last - 1, last), (29, 30), (30, 31), (2, 30))
            for one in asked:
                for other in asked:
                    self.assertEqual(
                        Fraction(*both_share("crossed", many, one, other)), places_share("crossed", one, other)
                    )

    def test_the_others_of_more_by_their_products(self):
        for many in (7, 8, 60, 64):
            for one in parts("highs", many):
                for other in parts("highs", many):
                    if one != other:
                        (k,), (j,) = one, other
                        self.assertEqual(
                            Fraction(*both_share("rounds", many, one, other)), Fraction(1, (many - k) * (many - j))
                        )
                        self.assertEqual(
                            Fraction(*both_share("highs", many, one, other)), Fraction(1, (k + 1) * (j + 1))
                        )
                        self.assertEqual(
                            Fraction(*both_share("stays", many, one, other)),
                            Fraction(factorial(many - 2), factorial(many)),
                        )

    def test_nothing_is_changed_and_the_same_is_told_again(self):
        for kind in STEP_KINDS:
            one, other = parts(kind, 9)[2], parts(kind, 9)[3]
            kept = (tuple(list(one)), tuple(list(other)))
            first = both_share(kind, 9, one, other)
            both_share(kind, 12, other, one)
            self.assertEqual((one, other), kept)
            self.assertEqual(both_share(kind, 9, one, other), first)
            self.assertEqual(both_share(kind, 9, other, one), first)


if __name__ == "__main__":
    unittest.main()
