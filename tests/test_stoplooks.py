import unittest
from fractions import Fraction
from math import gcd
from random import Random

from shuffletold.stoplooks import shows_no_better
from shuffletold.stopping import best_share, table
from tests.helper import as_fraction, as_share, best_of_all_ways, nested, otherwise, wrong_things

TINY = Fraction(1, 10 ** 300)
WRONGS = (
    0, 1, -1, 10 ** 40, True, False, None, "", "0", "0/1", b"", (), (0,), (1,), (0, 1), (1, 1), (1, 2), (-1, 2), (2, 2),
    (0, 2), (2, 4), (0, 0), (1, 0), (0, -1), (1, -1), (-1, -1), (1, -2), (-1, 1), (False, 1), (True, 1), (0, True),
    (1, True), (0, 1, 1), (10 ** 40, 1), (10 ** 2000 + 1, 10 ** 2000), [], [0, 1], [1, 1], {}, {0: 1}, set(),
    ("0", "1"), ("0", 1), (0, "1"), (None, 1), (0, None), ((0, 1), 1), ((0, 1),), ((0,), (1,)),
    nested(56, lambda inner: (inner,), 0), nested(56, lambda inner: [inner], 0),
)


def is_share(thing):
    """Whether thing is a share, by the document's words."""
    if type(thing) is not tuple or [type(part) for part in thing] != [int, int]:
        return False
    return thing[1] >= 1 and gcd(*thing) == 1


def is_shown(many, hands, thing):
    """Whether thing shows that no way wins more, by the document's words."""
    if type(thing) is not tuple or len(thing) != hands + 1:
        return False
    if any(type(row) is not tuple or len(row) != many + 1 for row in thing):
        return False
    if not all(is_share(share) for row in thing for share in row):
        return False
    rows = [[as_fraction(share) for share in row] for row in thing]
    for left, row in enumerate(rows):
        for place, share in enumerate(row):
            if left == 0 or place == many:
                least = 0
            else:
                laid = Fraction(place + 1, many) + rows[left - 1][place + 1]
                least = (place * row[place + 1] + max(row[place + 1], laid)) / (place + 1)
            if share < least:
                return False
    return True


def as_rows(fractions):
    return tuple(tuple(as_share(share) for share in row) for row in fractions)


def lifted(draw, many, hands):
    """A table that is enough, by drawn shares above what is asked of each, as fractions."""
    rows = []
    for left in range(hands + 1):
        row = [Fraction(0)] * (many + 1)
        for place in range(many, -1, -1):
            least = Fraction(0)
            if left and place < many:
                laid = Fraction(place + 1, many) + rows[left - 1][place + 1]
                least = (place * row[place + 1] + max(row[place + 1], laid)) / (place + 1)
            row[place] = least + draw.choice([0, 0, Fraction(1, draw.randrange(1, 30))])
        rows.append(row)
    return rows


def with_share(rows, left, place, share):
    """The rows with another share at this place."""
    row = rows[left]
    return rows[:left] + (row[:place] + (share,) + row[place + 1:],) + rows[left + 1:]


SIZES = ((1, 0), (1, 1), (2, 1), (3, 2), (4, 4), (5, 3), (2, 0))


class ShowsNoBetter(unittest.TestCase):
    def check(self, many, hands, thing):
        found = shows_no_better(many, hands, thing)
        self.assertIs(found, is_shown(many, hands, thing), (many, hands))
        return found

    def test_plain_ones(self):
        self.assertIs(shows_no_better(1, 0, (((0, 1), (0, 1)),)), True)
        self.assertIs(shows_no_better(1, 1, (((0, 1), (0, 1)), ((1, 1), (0, 1)))), True)
        self.assertIs(shows_no_better(1, 1, (((0, 1), (0, 1)), ((2, 1), (0, 1)))), True)
        self.assertIs(shows_no_better(1, 1, (((0, 1), (0, 1)), ((1, 2), (0, 1)))), False)
        self.assertIs(shows_no_better(1, 1, (((0, 1), (1, 3)), ((1, 1), (0, 1)))), False)
        self.assertIs(shows_no_better(1, 1, (((0, 1), (1, 3)), ((4, 3), (0, 1)))), True)
        self.assertIs(shows_no_better(1, 1, (((0, 1), (-1, 3)), ((1, 1), (0, 1)))), False)
        self.assertIs(shows_no_better(1, 1, (((0, 1), (0, 1)), ((1, 1), (-1, 9)))), False)

    def test_the_told_table(self):
        for many in list(range(1, 41)) + [45, 60]:
            for hands in range(5):
                self.assertIs(shows_no_better(many, hands, table(many, hands)), True, (many, hands))

    def test_the_told_table_for_others(self):
        for many in range(1, 8):
            for hands in range(5):
                rows = table(many, hands)
                for other_many in range(1, 9):
                    for other_hands in range(5):
                        self.check(other_many, other_hands, rows)

    def test_one_share_a_step_less_or_more(self):
        for many, hands in SIZES + ((40, 4), (17, 2)):
            rows = table(many, hands)
            for left in range(hands + 1):
                for place in range(many + 1):
                    share = as_fraction(rows[left][place])
                    for step in (TINY, Fraction(1, 60), Fraction(1)):
                        lower = with_share(rows, left, place, as_share(share - step))
                        self.assertIs(shows_no_better(many, hands, lower), False, (many, hands, left, place))
                        self.check(many, hands, with_share(rows, left, place, as_share(share + step)))

    def test_tables_above_it(self):
        for many, hands in SIZES + ((12, 3), (40, 4)):
            rows = [[as_fraction(share) for share in row] for row in table(many, hands)]
            for more in (TINY, Fraction(1, 7), Fraction(1), Fraction(10 ** 30)):
                lifted_alike = [[share + more for share in row] for row in rows]
                self.assertIs(shows_no_better(many, hands, as_rows(lifted_alike)), True)
                risen = [[share + left * more for share in row] for left, row in enumerate(rows)]
                self.assertIs(shows_no_better(many, hands, as_rows(risen)), True)
                sunk = [[share - more for share in row] for row in rows]
                self.assertIs(shows_no_better(many, hands, as_rows(sunk)), False)
            for left in range(hands):
                wide = [[share + (at == left) * 5 for share in row] for at, row in enumerate(rows)]
                self.assertIs(shows_no_better(many, hands, as_rows(wide)), False)

    def test_drawn_tables_that_are_taken_are_never_below_the_best(self):
        draw = Random(91)
        for many, hands in SIZES * 3 + ((6, 4), (12, 3), (40, 4), (40, 2)):
            rows = as_rows(lifted(draw, many, hands))
            self.assertIs(shows_no_better(many, hands, rows), True)
            self.assertGreaterEqual(as_fraction(rows[hands][0]), as_fraction(best_share(many, hands)))
            if many < 6:
                self.assertGreaterEqual(as_fraction(rows[hands][0]), best_of_all_ways(many, hands))
            for left in range(hands + 1):
                for place in range(0, many + 1, 1 + many // 6):
                    share = as_fraction(rows[left][place]) + Fraction(draw.randrange(-9, 10), 30)
                    self.check(many, hands, with_share(rows, left, place, as_share(share)))

    def test_drawn_shares(self):
        draw = Random(92)
        taken = 0
        for _ in range(4000):
            many, hands = draw.randrange(1, 4), draw.randrange(3)
            rows = [[Fraction(draw.randrange(0, 9), 3) for _ in range(many + 1)] for _ in range(hands + 1)]
            taken += self.check(many, hands, as_rows([sorted(row, reverse=True) for row in rows]))
        self.assertGreater(taken, 100)

    def changed(self, rows):
        """The rows with one thing otherwise."""
        for left, row in enumerate(rows):
            before, behind = rows[:left], rows[left + 1:]
            yield from (before + (other,) + behind for other in WRONGS)
            yield from (before + (other,) + behind for other in otherwise(row, WRONGS))
            for place, (over, under) in enumerate(row):
                for share in (
                    (2 * over, 2 * under), (-over, -under), (over, -under), (-over, under), [over, under], (under,
                    over),
                    (bool(over), under), (over, bool(under)), (str(over), str(under)), f"{over}/{under}", (over,),
                    (over, under, 1), (over, under - 1), (over + under, under), (over - under, under), ((over, under),),
                ):
                    yield with_share(rows, left, place, share)
                yield before + (row[:place] + row[place + 1:],) + behind
                yield before + (row[:place] + (row[place],) + row[place:],) + behind
                yield before + (row[:place] + row[place:place + 2][::-1] + row[place + 2:],) + behind
            yield before + behind
            yield before + (row, row) + behind
            yield before + (list(row),) + behind
            yield before + (row[::-1],) + behind
            yield before + (row + ((0, 1),),) + behind
            yield before + (row[:-1],) + behind
            yield rows[:left] + rows[left:left + 2][::-1] + rows[left + 2:]
        yield list(rows)
        yield [list(row) for row in rows]
        yield rows[::-1]
        yield (rows,)
        yield rows + ((),)
        yield rows + (((0, 1),) * len(rows[0]),)
        yield tuple(tuple(list(share) for share in row) for row in rows)

    def test_one_thing_otherwise(self):
        wrong = 0
        for many, hands in SIZES:
            told = table(many, hands)
            above = as_rows([[as_fraction(share) + left for share in row] for left, row in enumerate(told)])
            for rows in (told, above):
                for thing in self.changed(rows):
                    wrong += not self.check(many, hands, thing)
        self.assertGreater(wrong, 10000)

    def test_things_of_every_kind(self):
        for thing in wrong_things() + [()]:
            for many, hands in ((1, 0), (1, 1), (3, 2)):
                none = ((0, 1),) * (many + 1)
                for paper in (
                    thing, (thing,), (none, thing), (thing, none), (none[1:] + (thing,),), (none, none[1:] + (thing,)),
                    (none, none, none[1:] + (thing,)), (((thing, 1),) + none[1:],), (((0, thing),) + none[1:],),
                ):
                    self.check(many, hands, paper)

    def test_very_great_shares(self):
        great = 10 ** 3000
        rows = table(3, 2)
        self.assertIs(shows_no_better(3, 2, with_share(rows, 2, 0, (great, 1))), True)
        self.assertIs(shows_no_better(3, 2, with_share(rows, 2, 0, (-great, 1))), False)
        self.assertIs(shows_no_better(3, 2, with_share(rows, 2, 0, (great + 1, great))), True)
        self.assertIs(shows_no_better(3, 2, with_share(rows, 2, 0, (great * 2, great))), False)

    def test_nothing_is_changed(self):
        rows = [[(0, 1), (0, 1)], [(1, 1), [0, 1]]]
        kept = repr(rows)
        for thing in (rows, tuple(rows), tuple(tuple(row) for row in rows)):
            self.assertIs(shows_no_better(1, 1, thing), False)
            self.assertIs(shows_no_better(1, 1, thing), False)
        self.assertEqual(repr(rows), kept)


if __name__ == "__main__":
    unittest.main()
