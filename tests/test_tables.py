import unittest
from bisect import bisect
from functools import lru_cache
from itertools import permutations
from math import comb, factorial
from random import Random

from shuffletold.counts import count
from shuffletold.orders import undone
from shuffletold.tables import fillings, is_table, order_of_tables, shapes, tables
from tests.helper import (
    drawn_orders, is_told, is_told_order, long_orders, nested, orders_of, orders_to, otherwise, wrong_things
)

WRONGS = (
    -1, -2, -10 ** 40, 10 ** 40, True, False, "0", "", "1", b"", b"\x00", None, (), (0,), [], [0], {}, {0: 0}, set(),
    nested(57, lambda inner: (inner,), 0), nested(57, lambda inner: [inner], 0),
)


def is_table_by_words(thing):
    """Whether thing is a table, by the document's words."""
    if type(thing) is not tuple or any(type(row) is not tuple for row in thing):
        return False
    cells = {(at, column): number for at, row in enumerate(thing) for column, number in enumerate(row)}
    if any(type(number) is not int for number in cells.values()):
        return False
    lengths = [len(row) for row in thing]
    if any(length < 1 for length in lengths) or lengths != sorted(lengths, reverse=True):
        return False
    if sorted(cells.values()) != list(range(len(cells))):
        return False
    behind = [(cells[at, column - 1], number) for (at, column), number in cells.items() if column]
    below = [(cells[at - 1, column], number) for (at, column), number in cells.items() if at]
    return all(lesser < greater for lesser, greater in behind + below)


def shape_of(table):
    return tuple(len(row) for row in table)


def shapes_by_first(many, most):
    """All shapes of so many, none of whose numbers is above most, by their first numbers."""
    if many == 0:
        return [()]
    return [
        (first,) + behind
        for first in range(1, min(many, most) + 1)
        for behind in shapes_by_first(many - first, first)
    ]


@lru_cache(maxsize=None)
def filled(shape):
    """How many tables shape has, by the places at which the greatest number can stand."""
    if not shape:
        return 1
    found = 0
    for at, length in enumerate(shape):
        if at + 1 == len(shape) or shape[at + 1] < length:
            lesser = shape[:at] + (length - 1,) + shape[at + 1:]
            found += filled(tuple(number for number in lesser if number))
    return found


def laid_out(numbers, shape):
    """The numbers as rows of this shape."""
    rows, begun = [], 0
    for length in shape:
        rows.append(tuple(numbers[begun:begun + length]))
        begun += length
    return tuple(rows)


def all_tables(shape):
    found = [laid_out(numbers, shape) for numbers in permutations(range(sum(shape)))]
    return [table for table in found if is_table_by_words(table)]


def drawn_table(draw, shape):
    """A table of this shape, its greatest numbers put at drawn places that may have them."""
    rows = [[None] * length for length in shape]
    left = list(shape)
    for number in range(sum(shape) - 1, -1, -1):
        able = [at for at, length in enumerate(left) if length > (left[at + 1] if at + 1 < len(left) else 0)]
        at = draw.choice(able)
        left[at] -= 1
        rows[at][left[at]] = number
    return tuple(tuple(row) for row in rows)


def tables_by_words(order):
    """The two tables of order, each number led on from row to row by a call of its own."""
    one, other = [], []

    def lead(number, at, place):
        if at == len(one):
            one.append([])
            other.append([])
        column = bisect(one[at], number)
        if column == len(one[at]):
            one[at].append(number)
            other[at].append(place)
        else:
            pushed = one[at][column]
            one[at][column] = number
            lead(pushed, at + 1, place)

    for place, number in enumerate(order):
        lead(number, 0, place)
    return tuple(map(tuple, one)), tuple(map(tuple, other))


LONG = long_orders() + drawn_orders(61, (7, 8, 9, 12, 20, 31, 59, 60, 60, 60, 61, 66))
SHAPES_OF_60 = (
    (60,), (1,) * 60, (30, 30), (2,) * 30, (20, 20, 20), (10,) * 6, (15, 15, 15, 15), (59, 1), (2,) + (1,) * 58,
    (58, 2), (31, 29), (30,) + (1,) * 30, (12, 12, 12, 12, 12), (11, 10, 9, 8, 7, 6, 5, 4), (40, 10, 5, 3, 1, 1),
    (9, 9, 9, 9, 8, 8, 4, 4),
)


class IsTable(unittest.TestCase):
    def test_plain_ones(self):
        for thing in (
            (), ((0,),), ((0, 1),), ((0,), (1,)), ((0, 1), (2,)), ((0, 2), (1,)), ((0, 1), (2, 3)), ((0, 2), (1, 3)),
            ((0, 1, 4), (2, 3), (5,)), (tuple(range(60)),), tuple((number,) for number in range(60)),
        ):
            self.assertIs(is_table(thing), True, thing)
        for thing in (
            ((),), ((), ()), ((0,), ()), ((), (0,)), ((1,),), ((1, 0),), ((1,), (0,)), ((0,), (1, 2)), ((0, 1), (1,)),
            ((0, 3), (1, 2)), ((0, 0),), ((0, 2),), ((0, 1), (3,)), ((2, 1), (0,)), ((0, 1), (2, 3, 4)),
            ((0, 3), (1,), (2, 4)), ((-1, 0),), ((0, 1), (-1,)), (0,), (0, 1), ((0, 1), 2), ((0,), 1), 0, None,
            [], [(0,)], ([0],), [[0]], ((0, 1), [2]), ((False,),), ((0, True),), ((False, True),), ((0, 1), ("2",)),
            ((0, "1"),), (("0",),), ("0",), ("",), "0", ((0,), (None,)), (None,), ((0,), None), (((0,),),),
            ((((0,),),),), ((0, (1,)),), ({0: 0},), ({0},), {(0,)}, {(0,): 0}, (b"\x00",), (range(1),), (range(0),),
        ):
            self.assertIs(is_table(thing), False, thing)

    def test_all_fillings_of_small_shapes_and_of_what_is_no_shape(self):
        forms = [form for many in range(7) for form in shapes_by_first(many, many)]
        forms += [(1, 2), (1, 1, 2), (2, 1, 2), (2, 3), (1, 3), (0,), (0, 1), (1, 0), (2, 0, 1), (1, 0, 1)]
        for form in forms:
            for numbers in permutations(range(sum(form))):
                table = laid_out(numbers, form)
                self.assertIs(is_table(table), is_table_by_words(table), table)

    def test_all_rows_of_small_numbers(self):
        for form in ((1,), (2,), (1, 1), (2, 1), (3,), (2, 2), (1, 2), ()):
            numbers = [()]
            for _ in range(sum(form)):
                numbers = [begun + (number,) for begun in numbers for number in (-1, 0, 1, 2, 3, 4, True, False)]
            for found in numbers:
                table = laid_out(found, form)
                self.assertIs(is_table(table), is_table_by_words(table), table)

    def changed(self, table):
        """The table with one thing otherwise, or more."""
        yield from otherwise(table, WRONGS)
        for at, row in enumerate(table):
            before, behind = table[:at], table[at + 1:]
            numbers = (row[0] - 1, row[-1] + 1, 0, 1, sum(shape_of(table)), sum(shape_of(table)) - 1)
            yield from (before + (other,) + behind for other in otherwise(row, WRONGS + numbers))
            yield from (before + (other,) + behind for other in otherwise(row, tuple(str(number) for number in row)))
            for other in (row[:-1], row[1:], row + (row[-1] + 1,), row + row, row[::-1], list(row), (row,), ()):
                yield before + (other,) + behind
            yield before + behind
            yield before + (row, row) + behind
            yield before + (row, ()) + behind
            yield before + (row[:1], row[1:]) + behind
            for column in range(len(row) - 1):
                turned = row[:column] + (row[column + 1], row[column]) + row[column + 2:]
                yield before + (turned,) + behind
        yield list(table)
        yield [list(row) for row in table]
        yield tuple(list(row) for row in table)
        yield table[::-1]
        yield tuple(row[::-1] for row in table)
        yield (table,)
        yield table + table
        yield table + ((sum(shape_of(table)),),)
        yield table + ((sum(shape_of(table)) + 1,),)
        yield table + ((),)
        yield ((),) + table

    def exchanged(self, table):
        """The table with two of its numbers exchanged, each two of them."""
        numbers = [number for row in table for number in row]
        for one in range(len(numbers)):
            for other in range(one):
                turned = list(numbers)
                turned[one], turned[other] = turned[other], turned[one]
                yield laid_out(turned, shape_of(table))

    def test_one_thing_otherwise(self):
        draw = Random(62)
        seen = 0
        for shape in ((1,), (2, 1), (3, 3), (4, 2, 2, 1), (5, 4, 3, 1), (1, 1, 1), (10, 7, 3)):
            table = drawn_table(draw, shape)
            self.assertIs(is_table(table), True)
            for thing in list(self.changed(table)) + list(self.exchanged(table)):
                found = is_table(thing)
                self.assertIs(found, is_table_by_words(thing), thing)
                seen += not found
        self.assertGreater(seen, 2000)

    def test_long_ones(self):
        draw = Random(63)
        for shape in SHAPES_OF_60 + ((20,) * 20, (400,), (1,) * 400, tuple(range(40, 0, -1))):
            table = drawn_table(draw, shape)
            self.assertIs(is_table(table), True, shape)
            self.assertIs(is_table(table[::-1]), len(shape) == 1, shape)
            self.assertIs(is_table(table + ((sum(shape),),)), True)
            self.assertIs(is_table(table + ((sum(shape) + 1,),)), False)
            self.assertIs(is_table(table[:-1] + (table[-1] + (10 ** 5000,),)), False)

    def test_things_of_every_kind(self):
        for thing in wrong_things():
            self.assertIs(is_table(thing), is_table_by_words(thing), thing)
            self.assertIs(is_table((thing,)), is_table_by_words((thing,)), thing)
            self.assertIs(is_table(((0,), thing)), is_table_by_words(((0,), thing)), thing)
            self.assertIs(is_table(((0, thing),)), is_table_by_words(((0, thing),)), thing)

    def test_nothing_is_changed(self):
        rows = [[0, 1], [2]]
        is_table(rows)
        is_table((rows[0], rows[1]))
        self.assertEqual(rows, [[0, 1], [2]])


class Shapes(unittest.TestCase):
    def test_plain_ones(self):
        self.assertEqual(shapes(0), ((),))
        self.assertEqual(shapes(1), ((1,),))
        self.assertEqual(shapes(2), ((1, 1), (2,)))
        self.assertEqual(shapes(4), ((1, 1, 1, 1), (2, 1, 1), (2, 2), (3, 1), (4,)))

    def test_against_all_made_another_way(self):
        for many in list(range(21)) + [23, 25]:
            found = shapes(many)
            self.assertTrue(is_told(found))
            self.assertIs(type(found), tuple)
            self.assertTrue(all(is_told_order(shape) for shape in found))
            self.assertEqual(found, tuple(shapes_by_first(many, many)))
            self.assertEqual(found, tuple(sorted(set(found))))
            self.assertEqual(shapes(many), found)
        self.assertEqual(len(shapes(20)), 627)


class Fillings(unittest.TestCase):
    def test_plain_ones(self):
        self.assertEqual(fillings(()), 1)
        self.assertEqual(fillings((1,)), 1)
        self.assertEqual(fillings((2, 1)), 2)
        self.assertEqual(fillings((2, 2)), 2)
        self.assertEqual(fillings((3, 2)), 5)
        self.assertEqual(fillings((3, 2, 1)), 16)

    def test_all_tables_of_small_shapes_one_by_one(self):
        for many in range(8):
            for shape in shapes_by_first(many, many):
                found = fillings(shape)
                self.assertIs(type(found), int)
                self.assertEqual(found, len(all_tables(shape)), shape)

    def test_shapes_of_up_to_twenty(self):
        for many in range(21):
            numbers = [fillings(shape) for shape in shapes_by_first(many, many)]
            self.assertEqual(sum(number * number for number in numbers), factorial(many))
            if many <= 14:
                self.assertEqual(numbers, [filled(shape) for shape in shapes_by_first(many, many)])

    def test_shapes_of_sixty_and_beyond(self):
        self.assertEqual(fillings((60,)), 1)
        self.assertEqual(fillings((1,) * 60), 1)
        self.assertEqual(fillings((59, 1)), 59)
        self.assertEqual(fillings((30, 30)), comb(60, 30) // 31)
        self.assertEqual(fillings((2,) * 30), comb(60, 30) // 31)
        for legs in range(60):
            self.assertEqual(fillings((60 - legs,) + (1,) * legs), comb(59, legs))
        for shape in SHAPES_OF_60 + ((61,), (32, 32), (8,) * 8, (35, 30), (22, 22, 22)):
            self.assertEqual(fillings(shape), filled(shape), shape)

    def test_the_shape_turned_about_has_as_many(self):
        for shape in SHAPES_OF_60:
            turned = tuple(sum(1 for length in shape if length > column) for column in range(shape[0]))
            self.assertEqual(fillings(turned), fillings(shape))


class Tables(unittest.TestCase):
    def test_plain_ones(self):
        self.assertEqual(tables(()), ((), ()))
        self.assertEqual(tables((0,)), (((0,),), ((0,),)))
        self.assertEqual(tables((0, 1)), (((0, 1),), ((0, 1),)))
        self.assertEqual(tables((1, 0)), (((0,), (1,)), ((0,), (1,))))
        self.assertEqual(tables((2, 0, 1, 3)), (((0, 1, 3), (2,)), ((0, 2, 3), (1,))))
        self.assertEqual(tables((4, 1, 3, 0, 2)), (((0, 2), (1, 3), (4,)), ((0, 2), (1, 4), (3,))))
        self.assertEqual(order_of_tables((), ()), ())
        self.assertEqual(order_of_tables(((0, 1, 3), (2,)), ((0, 2, 3), (1,))), (2, 0, 1, 3))
        self.assertEqual(order_of_tables(((0, 1, 3), (2,)), ((0, 1, 2), (3,))), (0, 2, 3, 1))

    def check(self, order):
        found = tables(order)
        self.assertTrue(is_told(found))
        self.assertEqual((type(found), len(found)), (tuple, 2))
        one, other = found
        self.assertTrue(is_table_by_words(one) and is_table_by_words(other), order)
        self.assertIs(is_table(one), True)
        self.assertIs(is_table(other), True)
        self.assertEqual(shape_of(one), shape_of(other))
        self.assertEqual(sum(shape_of(one)), len(order))
        self.assertEqual(found, tables_by_words(order))
        self.assertEqual(len(one[0]) if one else 0, count("longest", order))
        self.assertEqual(len(one), count("longest", order[::-1]))
        self.assertEqual(tables(undone(order)), (other, one))
        self.assertEqual(tables(order), found)
        back = order_of_tables(one, other)
        self.assertTrue(is_told_order(back))
        self.assertEqual(back, order)
        self.assertEqual(order_of_tables(other, one), undone(order))

    def test_all_orders_of_few(self):
        for order in orders_to(6):
            self.check(order)

    def test_long_orders(self):
        for order in LONG:
            self.check(order)

    def test_every_two_tables_of_one_shape_have_their_order(self):
        for many in range(6):
            found = []
            for shape in shapes_by_first(many, many):
                for one in all_tables(shape):
                    for other in all_tables(shape):
                        order = order_of_tables(one, other)
                        self.assertEqual(tables(order), (one, other))
                        found.append(order)
            self.assertEqual(sorted(found), orders_of(many))

    def test_drawn_tables_of_sixty(self):
        draw = Random(64)
        for shape in SHAPES_OF_60 + ((61,), (33, 33), (8,) * 8):
            one, other = drawn_table(draw, shape), drawn_table(draw, shape)
            order = order_of_tables(one, other)
            self.assertEqual(tables(order), (one, other), shape)
            self.assertEqual(order_of_tables(one, other), order)

    def test_shapes_come_as_often_as_pairs_of_tables(self):
        seen = {}
        for order in orders_of(6):
            shape = shape_of(tables(order)[0])
            seen[shape] = seen.get(shape, 0) + 1
        self.assertEqual(seen, {shape: fillings(shape) ** 2 for shape in shapes(6)})


if __name__ == "__main__":
    unittest.main()
