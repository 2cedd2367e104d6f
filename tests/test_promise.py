"""What point 3 promises over the whole program, part by part, by the interface alone."""

import unittest
from fractions import Fraction
from itertools import product
from math import factorial
from random import Random

from shuffletold.among import nth, place_among, ways_on
from shuffletold.answers import answers
from shuffletold.boundlooks import bound_paper, shows_bound
from shuffletold.bounds import between, mean_between, most_share
from shuffletold.coins import coin_throws, coins_for, die, die_ways
from shuffletold.counts import count
from shuffletold.joint import lean, together, whole
from shuffletold.machines import met, nth_met, place_met
from shuffletold.marks import both, either, meets, opposite
from shuffletold.means import mean, spread
from shuffletold.orders import all_orders, is_order, undone
from shuffletold.parts import both_share, has, one_share, parts
from shuffletold.plays import rule_share, wins
from shuffletold.rounds import unwritten, written
from shuffletold.rows import longest_row, shows_longest
from shuffletold.steplooks import shows_steps
from shuffletold.stoplooks import shows_no_better
from shuffletold.stopping import best_share, rule, table
from shuffletold.tables import fillings, is_table, order_of_tables, shapes, tables
from shuffletold.texts import read_order, read_rounds, read_share, show_order, show_rounds, show_share
from shuffletold.throws import (
    is_throws, number_of, order_of, read, swapped, swaps_of, throws_at, throws_of
)
from shuffletold.told import share, steps, told
from tests.helper import (
    KINDS, STEP_KINDS, as_fraction, as_share, best_of_all_ways, drawn_machines, drawn_orders, drawn_throws
)

FEW = {many: all_orders(many) for many in range(7)}
COUNTS = {(kind, many): [count(kind, order) for order in FEW[many]] for kind in KINDS for many in FEW}
DRAWN = drawn_orders(121, (7, 9, 13, 20, 31, 44, 59, 60, 60))
PAIRS = (("rounds", "stays"), ("rises", "highs"), ("highs", "crossed"))
BOUNDS = {"rounds": 60, "stays": 60, "rises": 60, "highs": 60, "crossed": 24, "longest": 14}
MACHINES = drawn_machines(122, (1, 2, 3, 4, 6, 6))


def middle(numbers):
    """The mean of numbers."""
    return Fraction(sum(numbers), len(numbers))


class CountsAreThoseOfAllOrders(unittest.TestCase):
    """Part (a)."""

    def test_told_counts_are_those_of_all_orders(self):
        for (kind, many), counts in COUNTS.items():
            row = told(kind, many)
            self.assertEqual(row, tuple(counts.count(number) for number in range(len(row))))
            self.assertEqual(len(row), max(counts) + 1)

    def test_all_together_are_all_orders(self):
        for kind, most in BOUNDS.items():
            for many in range(0, most + 1, 1 if most < 30 else 6):
                row = told(kind, many)
                self.assertEqual(sum(row), factorial(many))
                self.assertEqual(share(kind, many, tuple(range(-1, len(row) + 1))), (1, 1))
                self.assertEqual(share(kind, many, ()), (0, 1))

    def test_counts_that_machines_meet(self):
        for machine in MACHINES:
            for many, orders in FEW.items():
                self.assertEqual(met(machine, many), sum(meets(machine, order) for order in orders))
            for many in (7, 20, 40):
                self.assertEqual(met(machine, many) + met(opposite(machine), many), factorial(many))

    def test_machines_put_together(self):
        for one in MACHINES:
            for other in MACHINES:
                for many in (3, 12, 40):
                    each = met(one, many) + met(other, many)
                    self.assertEqual(met(both(one, other), many) + met(either(one, other), many), each)

    def test_papers_of_steps_that_are_taken_tell_these_counts(self):
        for kind in STEP_KINDS:
            paper = steps(kind, 12)
            self.assertIs(shows_steps(kind, paper), True)
            self.assertEqual(paper, tuple(told(kind, many) for many in range(13)))
            for other in STEP_KINDS:
                alike = all(told(kind, many) == told(other, many) for many in range(13))
                self.assertIs(shows_steps(other, paper), alike)
            for at, row in enumerate(paper):
                for place in range(len(row)):
                    wrong = row[:place] + (row[place] + 1,) + row[place + 1:]
                    self.assertIs(shows_steps(kind, paper[:at] + (wrong,) + paper[at + 1:]), False)


class CountsTogether(unittest.TestCase):
    """Part (b)."""

    def test_counts_of_all_kinds(self):
        for many, orders in FEW.items():
            found = whole(many)
            self.assertEqual(sum(number for counts, number in found), len(orders))
            for at, kind in enumerate(KINDS):
                own = [0] * len(told(kind, many))
                for counts, number in found:
                    own[counts[at]] += number
                self.assertEqual(tuple(own), told(kind, many))
            for one, other in PAIRS:
                rows = together(one, other, many)
                for k, row in enumerate(rows):
                    for j, number in enumerate(row):
                        having = [
                            orders_of_it for counts, orders_of_it in found
                            if (counts[KINDS.index(one)], counts[KINDS.index(other)]) == (k, j)
                        ]
                        self.assertEqual(number, sum(having))

    def test_counts_of_two_kinds(self):
        for one, other in PAIRS:
            for many in range(11 if other == "crossed" else 17):
                rows = together(one, other, many)
                self.assertEqual(tuple(sum(row) for row in rows), told(one, many))
                self.assertEqual(tuple(sum(column) for column in zip(*rows)), told(other, many))


class SharesOfParts(unittest.TestCase):
    """Part (c)."""

    def test_parts(self):
        for kind in STEP_KINDS:
            for many in range(6):
                having = {part: [has(kind, part, order) for order in FEW[many]] for part in parts(kind, many)}
                columns = list(having.values())
                for at, counted in enumerate(COUNTS[kind, many]):
                    self.assertEqual(counted, sum(column[at] for column in columns))
                for one, truths in having.items():
                    self.assertEqual(as_fraction(one_share(kind, many, one)), middle(truths))
                    for other, others in having.items():
                        alike = [left and right for left, right in zip(truths, others)]
                        self.assertEqual(as_fraction(both_share(kind, many, one, other)), middle(alike))

    def test_means_and_spreads(self):
        for kind in STEP_KINDS:
            for many in FEW:
                counts = COUNTS[kind, many]
                self.assertEqual(as_fraction(mean(kind, many)), middle(counts))
                squares = [number * number for number in counts]
                self.assertEqual(as_fraction(spread(kind, many)), middle(squares) - middle(counts) ** 2)
            for many in (7, 15, BOUNDS[kind]):
                row = told(kind, many)
                first = Fraction(sum(number * orders for number, orders in enumerate(row)), factorial(many))
                second = Fraction(sum(number ** 2 * orders for number, orders in enumerate(row)), factorial(many))
                self.assertEqual(as_fraction(mean(kind, many)), first)
                self.assertEqual(as_fraction(spread(kind, many)), second - first ** 2)

    def test_leans(self):
        for one, other in PAIRS:
            for many in FEW:
                ones, others = COUNTS[one, many], COUNTS[other, many]
                products = [left * right for left, right in zip(ones, others)]
                self.assertEqual(as_fraction(lean(one, other, many)), middle(products) - middle(ones) * middle(others))


class OrdersAndThrows(unittest.TestCase):
    """Part (d)."""

    def test_orders_and_throws_undo_one_another(self):
        for order in [order for orders in FEW.values() for order in orders] + DRAWN:
            for there, back in ((throws_of, order_of), (swaps_of, swapped)):
                throws = there(order)
                self.assertIs(is_throws(throws), True)
                self.assertEqual(back(throws), order)
            throws = throws_of(order)
            for kind in ("highs", "crossed", "rises"):
                self.assertEqual(read(kind, throws), count(kind, order))
            self.assertEqual(read("rounds", swaps_of(order)), count("rounds", order))

    def test_throws_and_their_numbers(self):
        for many in range(7):
            found = [throws_at(many, number) for number in range(factorial(many))]
            self.assertEqual(found, sorted(set(found)))
            for way in (order_of, swapped):
                self.assertEqual(sorted(way(throws) for throws in found), list(FEW[many]))
            self.assertEqual([number_of(throws) for throws in found], list(range(factorial(many))))
        for throws in drawn_throws(123, (7, 30, 60, 60)):
            self.assertEqual(throws_at(len(throws), number_of(throws)), throws)
            for there, back in ((throws_of, order_of), (swaps_of, swapped)):
                self.assertIs(is_order(back(throws)), True)
                self.assertEqual(there(back(throws)), throws)

    def test_rows_of_coins(self):
        for many in range(5):
            for size in range(11):
                seen = {}
                for coins in product((0, 1), repeat=size):
                    found = coin_throws(many, coins)
                    if found is not None:
                        seen[found[0]] = seen.get(found[0], 0) + 1
                self.assertLessEqual(len(set(seen.values())), 1)
                self.assertIn(len(seen), (0, factorial(many)))
        for throws in drawn_throws(124, (1, 5, 20, 60)):
            coins = coins_for(throws)
            self.assertEqual(coin_throws(len(throws), coins), (throws, len(coins)))

    def test_rows_of_coins_of_one_die(self):
        for sides in range(1, 9):
            for size in range(9):
                found = [die(sides, coins) for coins in product((0, 1), repeat=size)]
                each, left = die_ways(sides, size)
                self.assertEqual(found.count(None), left)
                for side in range(sides):
                    self.assertEqual(sum(1 for thrown in found if thrown is not None and thrown[0] == side), each)


class NumbersOfOrders(unittest.TestCase):
    """Part (e)."""

    def test_orders_of_a_kind(self):
        for kind in STEP_KINDS:
            for many in range(6):
                row = told(kind, many)
                for number in range(len(row) + 1):
                    having = [order for order in FEW[many] if count(kind, order) == number]
                    found = [nth(kind, many, number, at) for at in range(len(having))]
                    self.assertEqual(found, having)
                    self.assertIsNone(nth(kind, many, number, len(having)))
                    self.assertEqual([place_among(kind, order) for order in having], list(range(len(having))))
                    self.assertEqual(ways_on(kind, many, (), number), len(having))

    def test_orders_that_machines_meet(self):
        for machine in MACHINES:
            for many in range(6):
                having = [order for order in FEW[many] if meets(machine, order)]
                self.assertEqual([nth_met(machine, many, at) for at in range(len(having))], having)
                self.assertIsNone(nth_met(machine, many, len(having)))
                self.assertEqual([place_met(machine, order) for order in having], list(range(len(having))))

    def test_drawn_numbers(self):
        draw = Random(125)
        for kind in STEP_KINDS:
            many = 12 if kind == "crossed" else 20
            number = count(kind, drawn_orders(126, (many,))[0])
            places = sorted({draw.randrange(told(kind, many)[number]) for _ in range(6)})
            found = [nth(kind, many, number, at) for at in places]
            self.assertEqual(found, sorted(set(found)))
            self.assertEqual([place_among(kind, order) for order in found], places)
            self.assertTrue(all(count(kind, order) == number for order in found))
        for machine in MACHINES:
            ways = met(machine, 10)
            places = sorted({draw.randrange(ways) for _ in range(4)}) if ways else []
            found = [nth_met(machine, 10, at) for at in places]
            self.assertEqual(found, sorted(set(found)))
            self.assertEqual([place_met(machine, order) for order in found], places)


class TablesRowsAndRounds(unittest.TestCase):
    """Part (f)."""

    def test_orders_and_tables(self):
        for order in [order for orders in FEW.values() for order in orders] + DRAWN:
            one, other = tables(order)
            self.assertTrue(is_table(one) and is_table(other))
            self.assertEqual(order_of_tables(one, other), order)
            self.assertEqual(tables(undone(order)), (other, one))
            self.assertEqual(len(one[0]) if one else 0, count("longest", order))

    def test_shapes_tell_all_orders(self):
        for many in range(15):
            row = [0] * (many + 1)
            for shape in shapes(many):
                row[shape[0] if shape else 0] += fillings(shape) ** 2
            self.assertEqual(tuple(row), told("longest", many))

    def test_longest_rows(self):
        for order in [order for orders in FEW.values() for order in orders] + DRAWN:
            row, falls = longest_row(order)
            self.assertEqual(len(row), count("longest", order))
            self.assertIs(shows_longest(order, (row, falls)), True)
            self.assertIs(shows_longest(order, (row[1:], falls[1:])), order == ())

    def test_rounds_and_highs_are_exchanged(self):
        for many, orders in FEW.items():
            self.assertEqual(sorted(written(order) for order in orders), list(orders))
        for order in [order for orders in FEW.values() for order in orders] + DRAWN:
            self.assertEqual(count("highs", written(order)), count("rounds", order))
            self.assertEqual(unwritten(written(order)), order)
            self.assertEqual(written(unwritten(order)), order)


class Bounds(unittest.TestCase):
    """Part (g)."""

    def test_bounds_hold(self):
        for (kind, many), counts in COUNTS.items():
            for number in range(18):
                having = middle([found >= number for found in counts])
                most = most_share(kind, many, number)
                self.assertLessEqual(having, as_fraction(most))
                paper = bound_paper(kind, many, number)
                self.assertIs(shows_bound(kind, many, number, most, paper), True)
                if having > 0:
                    below = as_share(having - Fraction(1, 10 ** 9))
                    for tried in (paper, ("all",), ("groups", 0), ("groups", 9), ("spread", (0, 1), (0, 1))):
                        self.assertIs(shows_bound(kind, many, number, below, tried), False)

    def test_bounds_hold_for_what_is_told(self):
        for kind, many in BOUNDS.items():
            row = told(kind, many)
            for number in range(0, 61):
                having = share(kind, many, tuple(range(number, len(row))))
                most = most_share(kind, many, number)
                self.assertLessEqual(as_fraction(having), as_fraction(most))
                self.assertIs(shows_bound(kind, many, number, most, bound_paper(kind, many, number)), True)

    def test_what_lies_between(self):
        for number in range(6):
            for begun in range(number, 30, 4):
                low, high = map(as_fraction, between(number, begun))
                for many in range(begun, 61, 3):
                    self.assertTrue(low <= as_fraction(share("stays", many, (number,))) <= high)
        for many in list(range(1, 40)) + [63, 64, 127, 128, 200]:
            low, high = map(as_fraction, mean_between(many))
            for kind in ("highs", "rounds"):
                self.assertTrue(low <= as_fraction(mean(kind, many)) <= high)


class Plays(unittest.TestCase):
    """Part (h)."""

    def test_no_way_wins_more_and_the_rule_just_so_often(self):
        for many in range(1, 6):
            for hands in range(5):
                best = as_fraction(best_share(many, hands))
                self.assertEqual(best_of_all_ways(many, hands), best)
                plan = rule(many, hands)
                self.assertEqual(middle([wins(plan, order) for order in FEW[many]]), best)
                self.assertEqual(rule_share(many, plan), best_share(many, hands))

    def test_tables_that_are_taken(self):
        draw = Random(127)
        for many in range(1, 6):
            for hands in range(4):
                told_table = table(many, hands)
                self.assertIs(shows_no_better(many, hands, told_table), True)
                self.assertEqual(told_table[hands][0], best_share(many, hands))
                for _ in range(20):
                    left, place = draw.randrange(hands + 1), draw.randrange(many + 1)
                    row = told_table[left]
                    other = as_share(as_fraction(row[place]) + Fraction(draw.randrange(-20, 21), 20))
                    changed = row[:place] + (other,) + row[place + 1:]
                    thing = told_table[:left] + (changed,) + told_table[left + 1:]
                    if shows_no_better(many, hands, thing):
                        self.assertGreaterEqual(as_fraction(thing[hands][0]), best_of_all_ways(many, hands))

    def test_drawn_rules(self):
        draw = Random(128)
        for many in (3, 6, 17, 40):
            for hands in range(5):
                plan = tuple(
                    tuple(place for place in range(many + 2) if draw.randrange(2)) for _ in range(hands)
                )
                self.assertLessEqual(as_fraction(rule_share(many, plan)), as_fraction(best_share(many, hands)))
                if many in FEW:
                    won = middle([wins(plan, order) for order in FEW[many]])
                    self.assertEqual(won, as_fraction(rule_share(many, plan)))


class TextsAndAnswers(unittest.TestCase):
    """Part (i)."""

    def test_what_is_written_is_read_as_it_was(self):
        for order in [order for orders in FEW.values() for order in orders] + DRAWN:
            self.assertEqual(read_order(show_order(order)), order)
            self.assertEqual(read_rounds(show_rounds(order)), order)
        for kind in STEP_KINDS:
            for many in (0, 1, 2, 30, 60):
                for told_share in (mean(kind, many), spread(kind, many)):
                    self.assertEqual(read_share(show_share(told_share)), told_share)
        for one, other in PAIRS:
            self.assertEqual(read_share(show_share(lean(one, other, 10))), lean(one, other, 10))

    def test_answers_are_as_all_these_tell(self):
        for order in [order for many in range(5) for order in FEW[many]] + DRAWN:
            text = show_order(order)
            rows = [f"{word} {text}" for word in ("rounds", "throws", "swaps")]
            rows += [f"order {show_order(throws_of(order))}", f"swapped {show_order(swaps_of(order))}"]
            rows += [f"count {kind} {text}" for kind in KINDS]
            wanted = [show_rounds(order), show_order(throws_of(order)), show_order(swaps_of(order)), text, text]
            wanted += [str(count(kind, order)) for kind in KINDS]
            self.assertEqual(answers("\n".join(rows)), tuple(wanted))
            for kind in STEP_KINDS:
                if len(order) <= 10:
                    place, = answers(f"among {kind} {text}")
                    self.assertEqual(place, str(place_among(kind, order)))
                    asked = f"nth {kind} {len(order)} {count(kind, order)} {place}"
                    self.assertEqual(answers(asked), (text,))

    def test_answers_of_numbers(self):
        for many in range(1, 21):
            for kind in STEP_KINDS:
                asked = f"mean {kind} {many}\nspread {kind} {many}"
                self.assertEqual(answers(asked), (show_share(mean(kind, many)), show_share(spread(kind, many))))
                if kind != "crossed" or many <= 8:
                    self.assertEqual(answers(f"told {kind} {many}")[0].split(" "), [str(n) for n in told(kind, many)])
            for hands in range(5):
                self.assertEqual(answers(f"best {many} {hands}"), (show_share(best_share(many, hands)),))


if __name__ == "__main__":
    unittest.main()
