import unittest

from shuffletold.steplooks import shows_steps
from shuffletold.told import steps
from tests.helper import STEP_KINDS, nested, wrong_things

FAR = {"rounds": (59, 60, 66), "stays": (59, 60, 66), "rises": (59, 60, 66), "highs": (59, 60, 66),
       "crossed": (23, 24, 28)}


def come_of(kind, many, ahead):
    """The row of so many that comes of the row ahead, as the document's words tell it."""
    def a(place):
        return ahead[place] if place in range(len(ahead)) else 0

    if kind in ("rounds", "highs"):
        return tuple(a(k - 1) + (many - 1) * a(k) for k in range(many + 1))
    if kind == "stays":
        return tuple(a(k - 1) + (many - 1 - k) * a(k) + (k + 1) * a(k + 1) for k in range(many + 1))
    if kind == "rises":
        return tuple((k + 1) * a(k) + (many - k) * a(k - 1) for k in range(many))
    return tuple(sum(a(k - back) for back in range(many)) for k in range(many * (many - 1) // 2 + 1))


def rows_on(kind, rows, many):
    """The rows, and behind them all to that of so many, each come of the one ahead."""
    found = list(rows)
    while len(found) <= many:
        found.append(come_of(kind, len(found), found[-1]))
    return tuple(found)


def places_of(thing):
    return [(at, k) for at, row in enumerate(thing) for k in range(len(row))]


def put(thing, at, k, number):
    """The paper with another number at one place."""
    row = thing[at]
    return thing[:at] + (row[:k] + (number,) + row[k + 1:],) + thing[at + 1:]


class ShowsSteps(unittest.TestCase):
    def taken(self, kind, thing):
        self.assertIs(shows_steps(kind, thing), True, (kind, repr(thing)[:200]))

    def not_taken(self, kind, thing):
        self.assertIs(shows_steps(kind, thing), False, (kind, repr(thing)[:200]))

    def test_steps_are_taken(self):
        for kind in STEP_KINDS:
            for many in tuple(range(16)) + FAR[kind]:
                self.taken(kind, steps(kind, many))

    def test_a_paper_made_by_another_is_taken(self):
        for kind in STEP_KINDS:
            for many in tuple(range(16)) + FAR[kind]:
                self.taken(kind, rows_on(kind, [(1,)], many))

    def test_plain_ones_written_out(self):
        self.taken("rounds", ((1,),))
        self.taken("rounds", ((1,), (0, 1), (0, 1, 1), (0, 2, 3, 1)))
        self.taken("highs", ((1,), (0, 1), (0, 1, 1), (0, 2, 3, 1)))
        self.taken("stays", ((1,), (0, 1), (1, 0, 1), (2, 3, 0, 1)))
        self.taken("rises", ((1,), (1,), (1, 1), (1, 4, 1)))
        self.taken("crossed", ((1,), (1,), (1, 1), (1, 2, 2, 1)))

    def test_one_number_one_more_or_less_at_any_place(self):
        for kind in STEP_KINDS:
            for many in range(8):
                paper = steps(kind, many)
                for at, k in places_of(paper):
                    self.not_taken(kind, put(paper, at, k, paper[at][k] + 1))
                    self.not_taken(kind, put(paper, at, k, paper[at][k] - 1))

    def test_one_number_wrong_at_the_bounds(self):
        for kind in STEP_KINDS:
            paper = steps(kind, FAR[kind][1])
            places = places_of(paper)
            for at, k in places[::29] + places[-3:]:
                self.not_taken(kind, put(paper, at, k, paper[at][k] + 1))
                self.not_taken(kind, put(paper, at, k, paper[at][k] - 1))
                self.not_taken(kind, put(paper, at, k, -paper[at][k] - 1))

    def test_other_things_for_a_number_at_any_place(self):
        for kind in STEP_KINDS:
            paper = steps(kind, 5)
            for at, k in places_of(paper):
                number = paper[at][k]
                for other in (str(number), "", None, [number], [], (number,), (), {}, {number: number}, b"\x01"):
                    self.not_taken(kind, put(paper, at, k, other))
                if number in (0, 1):
                    self.not_taken(kind, put(paper, at, k, bool(number)))

    def test_a_list_or_another_thing_for_a_row(self):
        for kind in STEP_KINDS:
            paper = steps(kind, 5)
            self.not_taken(kind, list(paper))
            self.not_taken(kind, [list(row) for row in paper])
            self.not_taken(kind, dict(enumerate(paper)))
            self.not_taken(kind, str(paper))
            for at, row in enumerate(paper):
                for other in (list(row), row[0], str(row), None, True, {}, dict(enumerate(row)), (row,), (), paper):
                    self.not_taken(kind, paper[:at] + (other,) + paper[at + 1:])

    def test_a_number_more_or_fewer(self):
        for kind in STEP_KINDS:
            for many in range(7):
                paper = steps(kind, many)
                for at, row in enumerate(paper):
                    for other in (row + (0,), (0,) + row, row + (1,), row[:-1], row[1:]):
                        self.not_taken(kind, paper[:at] + (other,) + paper[at + 1:])

    def test_a_row_more_or_fewer(self):
        for kind in STEP_KINDS:
            for many in range(2, 8):
                paper = steps(kind, many)
                for at in range(many):
                    shorter = paper[:at] + paper[at + 1:]
                    # Of rises and crossed the rows of none and of one are alike, yet the next one is not.
                    self.not_taken(kind, shorter)
                for at in range(many + 1):
                    self.not_taken(kind, paper[:at] + (paper[many],) + paper[at:])
                    self.not_taken(kind, paper[:at] + ((),) + paper[at:])
                self.not_taken(kind, paper + ((1,),))
                self.not_taken(kind, paper + (paper[-1] + (0,),))
                # Without its last row, or with the one that comes next, it is that of another many.
                self.taken(kind, paper[:-1])
                self.taken(kind, paper + (come_of(kind, many + 1, paper[-1]),))

    def test_two_exchanged(self):
        for kind in STEP_KINDS:
            paper = steps(kind, 6)
            for at, row in enumerate(paper):
                for one in range(len(row)):
                    for other in range(one):
                        if row[one] != row[other]:
                            self.not_taken(kind, put(put(paper, at, one, row[other]), at, other, row[one]))
                for other in range(at):
                    if row != paper[other]:
                        rows = list(paper)
                        rows[at], rows[other] = rows[other], rows[at]
                        self.not_taken(kind, tuple(rows))
            self.not_taken(kind, paper[::-1])

    def test_the_rows_of_another_kind(self):
        for kind in STEP_KINDS:
            for other in STEP_KINDS:
                for many in range(9):
                    paper = steps(other, many)
                    if paper == steps(kind, many):
                        self.taken(kind, paper)
                    else:
                        self.not_taken(kind, paper)
        self.not_taken("stays", steps("rounds", 2))
        self.not_taken("rounds", steps("stays", 2))
        self.not_taken("rises", steps("crossed", 3))
        self.not_taken("crossed", steps("rises", 3))
        self.not_taken("rises", steps("highs", 1))
        self.not_taken("crossed", steps("stays", 1))

    def test_another_first_row_and_all_that_comes_of_it(self):
        for kind in STEP_KINDS:
            for first in ((0,), (2,), (-1,), (1, 0), (1, 1), (0, 1), (True,), (), (10 ** 40,)):
                for many in range(6):
                    self.not_taken(kind, rows_on(kind, [first], many))

    def test_a_wrong_row_and_all_that_comes_of_it(self):
        for kind in STEP_KINDS:
            for at in range(1, 7):
                rows = steps(kind, at)
                for k in range(len(rows[at])):
                    for by in (-1, 1):
                        wrong = put(rows, at, k, rows[at][k] + by)
                        self.not_taken(kind, rows_on(kind, wrong, 9))
                for row in (rows[at] + (0,), rows[at] + (1,), rows[at][:-1], rows[at][::-1] + (0,)):
                    self.not_taken(kind, rows_on(kind, rows[:at] + (row,), 9))

    def test_a_row_multiplied_through(self):
        for kind in STEP_KINDS:
            paper = steps(kind, 6)
            for by in (-1, 0, 2):
                self.not_taken(kind, tuple(tuple(by * number for number in row) for row in paper))

    def test_a_paper_without_a_row(self):
        for kind in STEP_KINDS:
            self.not_taken(kind, ())
            self.not_taken(kind, ((),))

    def test_wrong_things_of_every_kind(self):
        for kind in STEP_KINDS:
            for thing in wrong_things():
                if repr(thing) != "((1,),)":
                    self.not_taken(kind, thing)
                self.not_taken(kind, ((1,), thing, thing))
                self.not_taken(kind, (thing, (2, 2)))
                self.not_taken(kind, steps(kind, 4) + (thing,))

    def test_things_nested_sixty_deep(self):
        for kind in STEP_KINDS:
            for inmost in ((), (1,), ((1,),), 1, None, steps(kind, 3)):
                deep = nested(57, lambda inner: (inner,), inmost)
                self.not_taken(kind, deep)
                self.not_taken(kind, ((1,), deep))
                self.not_taken(kind, nested(57, lambda inner: ((1,), inner), inmost))

    def test_great_things(self):
        for kind in STEP_KINDS:
            self.not_taken(kind, ((1,),) * 100000)
            self.not_taken(kind, ((1,), (1,) * 100000))
            self.not_taken(kind, ((10 ** 4000,),))
            self.not_taken(kind, ((1,), (10 ** 4000, 1)))
            self.not_taken(kind, (0,) * 100000)

    def test_nothing_is_changed_and_the_same_is_told_again(self):
        for kind in STEP_KINDS:
            for make in (lambda: steps(kind, 6), lambda: [[1], [0, 1]], lambda: ([1],), lambda: ((1,), [0, 1]),
                         lambda: {0: [1]}, lambda: ((1,), {0: 1})):
                thing, kept = make(), make()
                first = shows_steps(kind, thing)
                self.assertEqual(thing, kept)
                self.assertIs(shows_steps(kind, thing), first)


if __name__ == "__main__":
    unittest.main()
