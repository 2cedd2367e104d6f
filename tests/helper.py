"""What several tests need: orders to go through, and what may be told and handed in."""

from fractions import Fraction
from functools import lru_cache
from itertools import permutations, product
from math import gcd
from random import Random

KINDS = ("rounds", "stays", "rises", "highs", "crossed", "longest")
STEP_KINDS = KINDS[:5]


def orders_of(many):
    """All orders of so many things, made without the program."""
    return list(permutations(range(many)))


def orders_to(many):
    """All orders of at most so many things."""
    return [order for size in range(many + 1) for order in orders_of(size)]


def stepped(many, step, start):
    """An order of so many things that goes on by step, which shares no divisor with many."""
    order = tuple((start + step * place) % many for place in range(many))
    assert sorted(order) == list(range(many))
    return order


def long_orders():
    """Orders of 60 things and of somewhat more, of unlike forms."""
    found = []
    for many in (59, 60, 61, 64, 67):
        found.append(tuple(range(many)))
        found.append(tuple(range(many))[::-1])
        found.append(stepped(many, 7, 3))
        found.append(stepped(many, many - 1, 5))
        found.append(tuple(range(many // 2, many)) + tuple(range(many // 2)))
        found.append(tuple(place ^ 1 if place ^ 1 < many else place for place in range(many)))
    return found


def drawn_orders(seed, sizes):
    """An order of each of these sizes, the same at each run."""
    draw = Random(seed)
    return [tuple(draw.sample(range(many), many)) for many in sizes]


def throws_of_all(many):
    """All throws of so many things, rising, made without the program."""
    return list(product(*[range(place + 1) for place in range(many)]))


def drawn_throws(seed, sizes):
    """Throws of each of these sizes, the same at each run."""
    draw = Random(seed)
    return [tuple(draw.randrange(place + 1) for place in range(many)) for many in sizes]


def otherwise(things, wrongs):
    """The tuple of things again and again, with each of wrongs in the place of each of them."""
    return [things[:at] + (wrong,) + things[at + 1:] for at in range(len(things)) for wrong in wrongs]


def is_told(thing):
    """Whether thing is of the kinds that the program tells: nothing under them, and no list within."""
    if type(thing) is tuple:
        return all(is_told(inner) for inner in thing)
    return thing is None or type(thing) in (str, int, bool)


def is_told_order(thing):
    """Whether thing is told as an order is: a tuple of whole numbers that are no truths."""
    return type(thing) is tuple and all(type(number) is int for number in thing)


def is_told_share(thing):
    """Whether thing is told as a share is: a pair of whole numbers in lowest terms, under from 1 on."""
    return is_told_order(thing) and len(thing) == 2 and thing[1] >= 1 and gcd(thing[0], thing[1]) == 1


def as_fraction(share):
    return Fraction(share[0], share[1])


def as_share(fraction):
    return (fraction.numerator, fraction.denominator)


def mean_and_spread(kind, many):
    """The mean and the spread of rises, or of crossed, by the known formulas."""
    if many < 2:
        return Fraction(0), Fraction(0)
    if kind == "rises":
        return Fraction(many - 1, 2), Fraction(many + 1, 12)
    return Fraction(many * (many - 1), 4), Fraction(many * (many - 1) * (2 * many + 5), 72)


def nested(depth, wrap, inmost):
    """The inmost thing, wrapped so many times."""
    thing = inmost
    for _ in range(depth):
        thing = wrap(thing)
    return thing


def wrong_things():
    """Things of every kind that are no order, made anew at each call."""
    wraps = (
        lambda inner: (inner,),
        lambda inner: [inner],
        lambda inner: {0: inner},
        lambda inner: (0, inner),
        lambda inner: (inner, 0),
    )
    deep = [
        nested(depth, wrap, inmost)
        for depth in (1, 2, 59, 60)
        for wrap in wraps
        for inmost in ((), [], {}, None, "", True, 1, (0,), (1, 0))
    ]
    # ((0,),) and its kin are wrong, but (1, 0) and (0, 1) are orders.
    deep = [thing for thing in deep if thing not in ((1, 0), (0, 1))]
    return deep + [
        None, True, False, 0, 1, -1, 60, 10 ** 1000, -10 ** 1000,
        "", "0", "01", "-", "()", "(0, 1)", b"", b"\x00", b"\x00\x01",
        [], [0], [0, 1], [[0]], [()], [(0,)],
        {}, {0: 0}, {0: 0, 1: 1}, {(): ()}, set(), {0}, {0, 1}, frozenset(), frozenset([0]),
        range(0), range(3), bytearray(b"\x00"),
        (True,), (False,), (False, True), (0, True), (False, 1), (1, False), (True, 0), (0, 1, True), (2, 1, False),
        (-1,), (-1, 0), (0, -1), (-2, -1), (-1, -2, -3), (1, -1, 0), (0, 1, -10 ** 30),
        (1,), (2,), (1, 2), (0, 2), (2, 0), (3, 1, 0), (0, 1, 2, 4), (10 ** 1000,), (0, 10 ** 1000), (0, 2 ** 64),
        (0, 0), (1, 1), (0, 0, 1), (0, 1, 1), (2, 0, 2), (0, 1, 2, 0),
        ("0",), ("",), ("a",), (0, "1"), ("0", "1"), ("01",), (b"\x00",), (0, b"\x01"),
        (None,), (0, None), (None, 0), (None, None),
        ((),), ((0,),), (((),),), (0, (1,)), ((0, 1),), ((0,), (1,)), (0, ()), ((), 0), (0, 1, (2,)),
        ([],), ([0],), (0, [1]), ([0], 1), ([], []),
        ({},), ({0: 0},), (0, {}), ({}, 0), ({0: 1}, {1: 0}), (set(),), (frozenset(),), (0, {1}),
    ]


def drawn_machines(seed, sizes):
    """A machine of each of these numbers of states, the same at each run."""
    draw = Random(seed)
    found = []
    for states in sizes:
        rows = tuple(tuple(draw.randrange(states) for _ in range(4)) for _ in range(states))
        found.append((rows, tuple(state for state in range(states) if draw.randrange(2))))
    return found


def marks_by_words(order):
    """The marks of an order, by the document's words."""
    found = []
    for place in range(1, len(order)):
        here, ahead = order[place], order[:place]
        if all(here > number for number in ahead):
            found.append(3)
        elif here > order[place - 1]:
            found.append(2)
        elif all(here < number for number in ahead):
            found.append(0)
        else:
            found.append(1)
    return tuple(found)


def is_met(machine, order):
    """Whether machine meets order, by the document's words."""
    state = 0
    for mark in marks_by_words(order):
        state = machine[0][state][mark]
    return state in machine[1]


def best_of_all_ways(many, hands):
    """The greatest share of winning of all ways to play, all that was seen kept in mind."""

    @lru_cache(maxsize=None)
    def won(seen, left, held):
        # seen is how the things so far stand among themselves; held, whether their greatest has a hand on it.
        if len(seen) == many:
            return Fraction(held)
        total = Fraction(0)
        for rank in range(len(seen) + 1):
            later = tuple(other + (other >= rank) for other in seen) + (rank,)
            highest = rank == len(seen)
            found = won(later, left, held and not highest)
            if left:
                found = max(found, won(later, left - 1, held or highest))
            total += found
        return total / (len(seen) + 1)

    return won((), hands, False)


def is_won(plan, order):
    """Whether the play by plan is won, by the document's words."""
    left, laid = len(plan), []
    for place, number in enumerate(order):
        if left and number == max(order[:place + 1]) and place in plan[left - 1]:
            laid.append(number)
            left -= 1
    return max(order) in laid
