import unittest
from fractions import Fraction
from math import comb, factorial, perm
from random import Random

from shuffletold.boundlooks import bound_paper, shows_bound
from shuffletold.bounds import most_share
from shuffletold.counts import count
from tests.helper import (
    KINDS, as_fraction, as_share, is_told, mean_and_spread, nested, orders_of, otherwise, wrong_things
)

MANIES = list(range(9)) + [15, 16, 17, 59, 60, 61, 120, 121, 1000, 2 ** 20, 10 ** 29, 10 ** 30 - 1, 10 ** 30, 2 ** 100]
NUMBERS = [0, 1, 2, 3, 4, 5, 7, 8, 12, 30, 58, 59, 60, 61, 64]
WORDS = ("all", "sets", "groups", "spread")
TINY = Fraction(1, 10 ** 400)
WRONGS = (
    -1, 0, 1, 2, -10 ** 40, 10 ** 40, 10 ** 5000, True, False, "0", "", "1", "all", b"all", b"", None, (), (0,), (1,),
    (0, 1), (1, 1), (1, 2), (2, 2), (0, 2), (-1, 1), (1, 0), (0, 0), (1, -1), (True, 1), (1, True), (False, 1), [],
    [0, 1], [1, 1], {}, {0: 1}, set(), ("all",), nested(57, lambda inner: (inner,), 0),
    nested(57, lambda inner: [inner], 0),
)


def is_share(thing, fraction):
    """Whether thing is just this share."""
    return type(thing) is tuple and [type(part) for part in thing] == [int, int] and thing == as_share(fraction)


def shown_by(kind, many, number, thing):
    """The least bound that thing shows, by the document's words; None where it shows none."""
    if type(thing) is not tuple:
        return None
    if len(thing) == 1 and type(thing[0]) is str and thing[0] == "all":
        return Fraction(1)
    if number < 1:
        return None
    word = {"stays": "sets", "longest": "sets", "rounds": "groups", "highs": "groups"}.get(kind, "spread")
    if len(thing) != (2 if word == "groups" else 3) or type(thing[0]) is not str or thing[0] != word:
        return None
    if word == "sets":
        having = perm(many, number) if kind == "stays" else factorial(number)
        each = Fraction(1, having) if number <= many else Fraction(0)
        right = type(thing[1]) is int and thing[1] == comb(many, number) and is_share(thing[2], each)
        return comb(many, number) * each if right else None
    if word == "groups":
        figures = thing[1]
        if type(figures) is not int or figures < 0 or many >= 2 ** min(figures, 10 ** 4):
            return None
        return Fraction(figures ** number, factorial(number))
    middle, wide = mean_and_spread(kind, many)
    right = is_share(thing[1], middle) and is_share(thing[2], wide) and number > middle
    return wide / (number - middle) ** 2 if right else None


def papers_by_hand(kind, many, number):
    """Papers of all forms, right ones among them."""
    sets = comb(many, number)
    figures = many.bit_length()
    found = [("all",)]
    for each in (Fraction(0), Fraction(1, factorial(number)), Fraction(1, perm(many, number) or 1)):
        for many_sets in (sets, sets + 1, max(sets - 1, 0)):
            found.append(("sets", many_sets, as_share(each)))
    for more in (-1, 0, 1, 2, 50):
        found.append(("groups", figures + more))
    for own in ("rises", "crossed"):
        middle, wide = mean_and_spread(own, many)
        for other_middle in (middle, middle + 1, middle - Fraction(1, 2)):
            for other_wide in (wide, wide + 1, Fraction(0)):
                found.append(("spread", as_share(other_middle), as_share(other_wide)))
    return found


def changed(thing):
    """The paper thing with one thing otherwise."""
    yield from otherwise(thing, WRONGS)
    yield from otherwise(thing, WORDS)
    for at, inner in enumerate(thing):
        before, behind = thing[:at], thing[at + 1:]
        if type(inner) is int:
            for other in (inner + 1, inner - 1, -inner, inner * 2, str(inner), (inner,), (inner, 1), bool(inner)):
                yield before + (other,) + behind
        elif type(inner) is tuple:
            over, under = inner
            yield from (before + (other,) + behind for other in otherwise(inner, WRONGS))
            for other in (
                (over + 1, under), (over - 1, under), (over, under + 1), (over, under - 1), (2 * over, 2 * under),
                (-over, -under), (-over, under), (over, -under), (over,), (over, under, 1), (under, over),
                (bool(over), under), (over, bool(under)), [over, under], (str(over), under), f"{over}/{under}",
                (over, (under,)), over, (inner,),
            ):
                yield before + (other,) + behind
        else:
            for other in (inner.upper(), inner + " ", " " + inner, inner[:-1], inner.encode(), (inner,), [inner]):
                yield before + (other,) + behind
        yield before + behind
        yield before + (inner, inner) + behind
    yield list(thing)
    yield (thing,)
    yield thing + (0,)
    yield thing + (None,)
    yield thing + ((),)
    yield thing[::-1]


class BoundPaper(unittest.TestCase):
    def test_plain_ones(self):
        self.assertEqual(bound_paper("stays", 10, 0), ("all",))
        self.assertEqual(bound_paper("stays", 4, 3), ("sets", 4, (1, 24)))
        self.assertEqual(bound_paper("stays", 2, 3), ("sets", 0, (0, 1)))
        self.assertEqual(bound_paper("longest", 4, 3), ("sets", 4, (1, 6)))
        self.assertEqual(bound_paper("rises", 4, 3), ("spread", (3, 2), (5, 12)))
        self.assertEqual(bound_paper("rises", 4, 1), ("all",))
        self.assertEqual(bound_paper("highs", 3, 5), ("groups", 2))
        self.assertEqual(bound_paper("highs", 10 ** 30, 60), ("all",))

    def test_taken_with_what_is_told_and_with_all_above(self):
        for kind in KINDS:
            for many in MANIES:
                for number in NUMBERS:
                    at = (kind, many, number)
                    paper = bound_paper(*at)
                    self.assertTrue(is_told(paper), at)
                    self.assertIs(type(paper), tuple)
                    most = as_fraction(most_share(*at))
                    self.assertEqual(shown_by(*at, paper), most, at)
                    for more in (0, TINY, Fraction(1, 7), Fraction(1), Fraction(10 ** 30)):
                        self.assertIs(shows_bound(*at, as_share(most + more), paper), True, at)
                    for lesser in (most - TINY, most / 2 - TINY, most - 1 - TINY, Fraction(-1), Fraction(-10 ** 30)):
                        self.assertIs(shows_bound(*at, as_share(lesser), paper), False, at)
                    self.assertEqual(bound_paper(*at), paper)


class ShowsBound(unittest.TestCase):
    def check(self, kind, many, number, bound, thing):
        least = shown_by(kind, many, number, thing)
        right = least is not None and bound >= least
        found = shows_bound(kind, many, number, as_share(bound), thing)
        self.assertIs(found, right, (kind, many, number, bound))
        return found

    def test_plain_ones(self):
        for kind in KINDS:
            for many in (0, 1, 5, 10 ** 30):
                for number in (0, 1, 60):
                    self.assertIs(shows_bound(kind, many, number, (1, 1), ("all",)), True)
                    self.assertIs(shows_bound(kind, many, number, (3, 2), ("all",)), True)
                    self.assertIs(shows_bound(kind, many, number, (99, 100), ("all",)), False)
                    self.assertIs(shows_bound(kind, many, number, (1, 1), ("all", ())), False)
        self.assertIs(shows_bound("stays", 4, 3, (1, 6), ("sets", 4, (1, 24))), True)
        self.assertIs(shows_bound("stays", 4, 3, (1, 7), ("sets", 4, (1, 24))), False)
        self.assertIs(shows_bound("stays", 4, 3, (1, 1), ("sets", 4, (1, 6))), False)
        self.assertIs(shows_bound("longest", 4, 3, (2, 3), ("sets", 4, (1, 6))), True)
        self.assertIs(shows_bound("longest", 4, 3, (2, 3), ("sets", 4, (1, 24))), False)
        self.assertIs(shows_bound("highs", 3, 5, (4, 15), ("groups", 2)), True)
        self.assertIs(shows_bound("highs", 3, 5, (4, 15), ("groups", 3)), False)
        self.assertIs(shows_bound("highs", 3, 5, (81, 40), ("groups", 3)), True)
        self.assertIs(shows_bound("highs", 4, 5, (81, 40), ("groups", 2)), False)
        self.assertIs(shows_bound("crossed", 4, 6, (13, 54), ("spread", (3, 1), (13, 6))), True)
        self.assertIs(shows_bound("crossed", 4, 6, (13, 54), ("spread", (3, 1), (4, 3))), False)

    def test_number_nought_is_shown_by_all_alone(self):
        for kind in KINDS:
            for many in MANIES:
                for thing in papers_by_hand(kind, many, 0):
                    self.assertIs(shows_bound(kind, many, 0, (1, 1), thing), thing == ("all",), (kind, thing))
                    self.assertIs(shows_bound(kind, many, 0, (10 ** 40, 1), thing), thing == ("all",), (kind, thing))

    def test_papers_by_another_hand(self):
        taken = 0
        for kind in KINDS:
            for many in MANIES:
                for number in NUMBERS:
                    for thing in papers_by_hand(kind, many, number):
                        least = shown_by(kind, many, number, thing)
                        bounds = [Fraction(1), Fraction(-1, 3), Fraction(0), Fraction(10 ** 9), Fraction(1, 10 ** 90)]
                        if least is not None:
                            bounds += [least, least - TINY, least + TINY]
                        for bound in bounds:
                            taken += self.check(kind, many, number, bound, thing)
        self.assertGreater(taken, 5000)

    def test_no_figures(self):
        for kind in ("rounds", "highs"):
            for number in (1, 2, 60):
                self.assertIs(shows_bound(kind, 0, number, (0, 1), ("groups", 0)), True)
                self.assertIs(shows_bound(kind, 0, number, (-1, 10 ** 60), ("groups", 0)), False)
                self.assertIs(shows_bound(kind, 0, number, (0, 1), ("groups", 1)), False)
                self.assertIs(shows_bound(kind, 0, number, (1, 1), ("groups", 1)), True)
                self.assertIs(shows_bound(kind, 0, number, (1, 1), ("groups", -1)), False)
                self.assertIs(shows_bound(kind, 1, number, (1, 1), ("groups", 0)), False)
                for truth in (False, True):
                    self.assertIs(shows_bound(kind, 0, number, (1, 1), ("groups", truth)), False)

    def test_figures_beyond_all_measure(self):
        for kind in ("rounds", "highs"):
            for figures in (10 ** 5000, 10 ** 100000, -10 ** 100000):
                self.assertIs(shows_bound(kind, 10 ** 30, 60, (10 ** 30, 1), ("groups", figures)), False)
            figures = 10 ** 3000
            bound = as_share(Fraction(figures ** 3, 6))
            self.assertIs(shows_bound(kind, 10 ** 30, 3, bound, ("groups", figures)), True)
            self.assertIs(shows_bound(kind, 10 ** 30, 3, bound, ("groups", figures + 1)), False)

    def test_one_thing_otherwise(self):
        wrong = 0
        for kind in KINDS:
            for many, number in ((1, 1), (4, 4), (5, 5), (2, 3), (60, 60), (10 ** 30, 33), (0, 1), (4, 0)):
                right = [
                    thing for thing in papers_by_hand(kind, many, number)
                    if shown_by(kind, many, number, thing) is not None
                ]
                for paper in right:
                    least = shown_by(kind, many, number, paper)
                    for thing in changed(paper):
                        for bound in (least, Fraction(10 ** 9), Fraction(1)):
                            wrong += not self.check(kind, many, number, bound, thing)
        self.assertGreater(wrong, 10000)

    def test_things_of_every_kind(self):
        bounds = (Fraction(0), Fraction(1), Fraction(10 ** 90))
        for thing in wrong_things() + [()]:
            for kind, many, number in (
                ("stays", 1, 1), ("rounds", 1, 1), ("rises", 1, 1), ("longest", 0, 1), ("highs", 9, 0)
            ):
                for paper in (
                    thing, (thing,), ("all", thing), ("sets", thing), ("sets", 1, thing), ("sets", thing, (1, 1)),
                    ("groups", thing), ("groups", 1, thing), ("spread", thing, (0, 1)), ("spread", (0, 1), thing),
                    ("spread", (0, 1), (0, 1), thing),
                ):
                    for bound in bounds:
                        self.check(kind, many, number, bound, paper)

    def test_drawn_papers_that_are_taken_hold_for_all_orders_of_few(self):
        draw = Random(71)
        taken = 0
        for many in range(7):
            orders = orders_of(many)
            counts = {kind: [count(kind, order) for order in orders] for kind in KINDS}
            for kind in KINDS:
                for number in range(12):
                    having = Fraction(sum(1 for found in counts[kind] if found >= number), len(orders))
                    for thing in papers_by_hand(kind, many, number):
                        for bound in (having, having - TINY, Fraction(draw.randrange(-2, 12), draw.randrange(1, 9))):
                            if shows_bound(kind, many, number, as_share(bound), thing):
                                taken += 1
                                self.assertLessEqual(having, bound, (kind, many, number, bound, thing))
        self.assertGreater(taken, 300)

    def test_nothing_is_changed(self):
        for thing in (["sets", 4, [1, 24]], ("sets", 4, [1, 24]), ("sets", [4], (1, 24)), ("groups", [2])):
            kept = repr(thing)
            for kind in KINDS:
                self.assertIs(shows_bound(kind, 4, 3, (1, 1), thing), False)
            self.assertEqual(repr(thing), kept)


if __name__ == "__main__":
    unittest.main()
