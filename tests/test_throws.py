import unittest
from math import factorial
from random import Random

from shuffletold.counts import count
from shuffletold.throws import (
    is_throws, number_of, order_of, read, swapped, swaps_of, throws_at, throws_of
)
from tests.helper import (
    drawn_orders, drawn_throws, is_told_order, long_orders, nested, orders_of, orders_to, otherwise, throws_of_all,
    wrong_things
)

SIZES = tuple(range(7, 61, 3)) + (58, 59, 60, 61, 64, 70)
KINDS = ("highs", "crossed", "rises", "rounds")


def throws_to(many):
    """All throws of at most so many things."""
    return [throws for size in range(many + 1) for throws in throws_of_all(size)]


def long_throws():
    """The least and the greatest throws of many things, and drawn ones."""
    edges = [make(many) for many in (59, 60, 61, 66) for make in (
        lambda many: (0,) * many,
        lambda many: tuple(range(many)),
        lambda many: tuple(place // 2 for place in range(many)),
        lambda many: tuple(place % 2 * place for place in range(many)),
    )]
    return edges + drawn_throws(2, SIZES)


def are_throws(things):
    """Whether a tuple is throws, by the document's words."""
    return all(type(throw) is int and throw in range(place + 1) for place, throw in enumerate(things))


class IsThrows(unittest.TestCase):
    def test_plain_ones(self):
        for throws in ((), (0,), (0, 0), (0, 1), (0, 1, 2), (0, 0, 2, 1), (0, 1, 0, 3)):
            self.assertIs(is_throws(throws), True, throws)
        for thing in ((1,), (-1,), (0, 2), (1, 0), (0, 1, 3), (0, 0, 0, 4), (0, -1), [0], "0", None, 0, True):
            self.assertIs(is_throws(thing), False, thing)

    def test_all_tuples_of_few_small_numbers(self):
        for many in range(5):
            good = set(throws_of_all(many))
            for code in range(6 ** many):
                things = tuple(code // 6 ** place % 6 - 1 for place in range(many))
                self.assertIs(is_throws(things), things in good, things)

    def test_of_every_length(self):
        for many in range(75):
            for throws in [(0,) * many, tuple(range(many))] + drawn_throws(many, (many,)):
                self.assertIs(is_throws(throws), True)
                self.assertIs(is_throws(list(throws)), False)
        self.assertIs(is_throws(tuple(range(5000))), True)
        self.assertIs(is_throws(tuple(range(5000)) + (5001,)), False)

    def test_one_thing_otherwise_at_any_place(self):
        wrongs = (
            -1, -10 ** 40, 10 ** 40, True, False, "0", "", b"", b"\x00", None, (), (0,), [], [0], {}, {0: 0}, set(),
            nested(58, lambda inner: (inner,), 0), nested(58, lambda inner: [inner], 0),
        )
        for many in (1, 2, 3, 5, 30, 59, 60, 61, 65):
            for throws in ((0,) * many, tuple(range(many))):
                for thing in otherwise(throws, wrongs):
                    self.assertIs(is_throws(thing), False, thing)
                for place in range(many):
                    self.assertIs(is_throws(throws[:place] + (place + 1,) + throws[place + 1:]), False)
                    self.assertIs(is_throws(throws[:place] + (place,) + throws[place + 1:]), True)

    def test_of_things_of_every_kind(self):
        for thing in wrong_things():
            # Some that are no order are throws, as (0, 0).
            right = type(thing) is tuple and are_throws(thing)
            self.assertIs(is_throws(thing), right, thing)
        self.assertIs(is_throws([]), False)

    def test_nothing_is_changed_and_the_same_is_told_again(self):
        inner = [0]
        thing = (0, inner)
        self.assertIs(is_throws(thing), False)
        self.assertEqual((thing, inner), ((0, [0]), [0]))
        self.assertIs(is_throws(thing), False)


class OrderOf(unittest.TestCase):
    def test_plain_ones(self):
        self.assertEqual(order_of(()), ())
        self.assertEqual(order_of((0,)), (0,))
        self.assertEqual(order_of((0, 1)), (1, 0))
        self.assertEqual(order_of((0, 0, 0, 0)), (0, 1, 2, 3))
        self.assertEqual(order_of((0, 1, 2, 3)), (3, 2, 1, 0))
        self.assertEqual(order_of((0, 1, 1, 0)), (2, 0, 1, 3))
        self.assertEqual(throws_of((2, 0, 1, 3)), (0, 1, 1, 0))

    def check(self, throws):
        order = order_of(throws)
        self.assertTrue(is_told_order(order))
        self.assertEqual(sorted(order), list(range(len(throws))))
        for place, throw in enumerate(throws):
            self.assertEqual(len([1 for ahead in order[:place] if ahead > order[place]]), throw, (throws, place))
        back = throws_of(order)
        self.assertTrue(is_told_order(back))
        self.assertEqual(back, throws)
        self.assertEqual(order_of(throws), order)

    def test_just_as_many_greater_ahead_and_back(self):
        for throws in throws_to(6) + long_throws():
            self.check(throws)

    def test_orders_there_and_back(self):
        for order in orders_to(6) + long_orders() + drawn_orders(3, SIZES):
            throws = throws_of(order)
            self.assertTrue(is_told_order(throws) and are_throws(throws))
            self.assertEqual(order_of(throws), order)

    def test_each_order_comes_of_one(self):
        for many in range(7):
            self.assertEqual(sorted(order_of(throws) for throws in throws_of_all(many)), orders_of(many))


class Swapped(unittest.TestCase):
    def test_plain_ones(self):
        self.assertEqual(swapped(()), ())
        self.assertEqual(swapped((0,)), (0,))
        self.assertEqual(swapped((0, 0)), (1, 0))
        self.assertEqual(swapped((0, 1, 2)), (0, 1, 2))
        self.assertEqual(swapped((0, 0, 0)), (2, 0, 1))
        self.assertEqual(swapped((0, 1, 0, 1)), (2, 3, 0, 1))
        self.assertEqual(swaps_of((2, 3, 0, 1)), (0, 1, 0, 1))

    def by_words(self, throws):
        numbers = dict(enumerate(range(len(throws))))
        for place in range(len(throws)):
            here, there = numbers[place], numbers[throws[place]]
            numbers[place] = there
            numbers[throws[place]] = here
        return tuple(numbers[place] for place in range(len(throws)))

    def test_by_the_words_and_back(self):
        for throws in throws_to(6) + long_throws():
            order = swapped(throws)
            self.assertTrue(is_told_order(order))
            self.assertEqual(order, self.by_words(throws), throws)
            back = swaps_of(order)
            self.assertTrue(is_told_order(back))
            self.assertEqual(back, throws)
            self.assertEqual(swapped(throws), order)

    def test_orders_there_and_back(self):
        for order in orders_to(6) + long_orders() + drawn_orders(4, SIZES):
            throws = swaps_of(order)
            self.assertTrue(is_told_order(throws) and are_throws(throws))
            self.assertEqual(swapped(throws), order)
            self.assertEqual(swaps_of(order), throws)

    def test_each_order_comes_of_one(self):
        for many in range(7):
            self.assertEqual(sorted(swapped(throws) for throws in throws_of_all(many)), orders_of(many))


class Read(unittest.TestCase):
    def test_plain_ones(self):
        self.assertEqual([read(kind, (0, 1, 1, 0)) for kind in KINDS], [2, 2, 2, 2])
        self.assertEqual([read(kind, (0, 0, 2, 1, 4)) for kind in KINDS], [2, 7, 2, 3])

    def test_of_none_and_of_one(self):
        self.assertEqual([read(kind, ()) for kind in KINDS], [0, 0, 0, 0])
        self.assertEqual([read(kind, (0,)) for kind in KINDS], [1, 0, 0, 1])

    def test_against_the_count_of_the_order_made(self):
        for throws in throws_to(6) + long_throws():
            for kind in KINDS:
                order = swapped(throws) if kind == "rounds" else order_of(throws)
                found = read(kind, throws)
                self.assertIs(type(found), int)
                self.assertEqual(found, count(kind, order), (kind, throws))
                self.assertEqual(read(kind, throws), found)

    def test_against_the_order_gone_through(self):
        for throws in throws_to(5) + long_throws():
            order = order_of(throws)
            rises = [1 for place in range(1, len(order)) if order[place - 1] < order[place]]
            highs = [1 for place in range(len(order)) if order[place] == max(order[:place + 1])]
            crossed = [1 for j in range(len(order)) for k in range(j) if order[k] > order[j]]
            self.assertEqual(read("rises", throws), len(rises))
            self.assertEqual(read("highs", throws), len(highs))
            self.assertEqual(read("crossed", throws), len(crossed))


class ThrowsAt(unittest.TestCase):
    def test_plain_ones(self):
        self.assertEqual(throws_at(0, 0), ())
        self.assertEqual(throws_at(1, 0), (0,))
        self.assertEqual([throws_at(2, number) for number in range(2)], [(0, 0), (0, 1)])
        self.assertEqual(throws_at(3, 3), (0, 1, 0))
        self.assertEqual(number_of((0, 1, 0)), 3)

    def test_all_of_few_in_their_order(self):
        for many in range(8):
            listed = throws_of_all(many)
            self.assertEqual(len(listed), factorial(many))
            self.assertEqual([throws_at(many, number) for number in range(len(listed))], listed)
            self.assertEqual([number_of(throws) for throws in listed], list(range(len(listed))))

    def test_of_many_there_and_back(self):
        draw = Random(5)
        for many in SIZES:
            last = factorial(many) - 1
            for number in [0, 1, 2, last // 2, last - 1, last] + [draw.randrange(last + 1) for _ in range(10)]:
                throws = throws_at(many, number)
                self.assertTrue(is_told_order(throws) and are_throws(throws))
                self.assertEqual(len(throws), many)
                back = number_of(throws)
                self.assertIs(type(back), int)
                self.assertEqual(back, number)
                self.assertEqual(throws_at(many, number), throws)

    def test_throws_there_and_back(self):
        for throws in long_throws():
            number = number_of(throws)
            self.assertTrue(0 <= number < factorial(len(throws)))
            self.assertEqual(throws_at(len(throws), number), throws)
            self.assertEqual(number_of(throws), number)

    def test_rises_from_the_first_to_the_last(self):
        draw = Random(6)
        for many in SIZES:
            last = factorial(many) - 1
            asked = sorted({draw.randrange(last + 1) for _ in range(20)} | {0, 1, last - 1, last})
            found = [throws_at(many, number) for number in asked]
            self.assertEqual(found, sorted(set(found)))
            self.assertEqual((found[0], found[-1]), ((0,) * many, tuple(range(many))))
            for number in asked[:-1]:
                self.assertLess(throws_at(many, number), throws_at(many, number + 1))


class Kept(unittest.TestCase):
    def test_nothing_is_changed(self):
        throws, order = (0, 1, 0, 2), (2, 0, 3, 1)
        kept = (tuple(list(throws)), tuple(list(order)))
        order_of(throws)
        throws_of(order)
        swapped(throws)
        swaps_of(order)
        number_of(throws)
        for kind in KINDS:
            read(kind, throws)
        self.assertEqual((throws, order), kept)


if __name__ == "__main__":
    unittest.main()
