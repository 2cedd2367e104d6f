"""The marks of an order, and machines that go by them."""

from shuffletold.wholes import are_below, are_rising

MARKS = (0, 1, 2, 3)


def marks(order):
    """The tuple of the marks of order, for each place from 1 on."""
    return tuple([mark_at(order, place) for place in range(1, len(order))])


def mark_at(order, place):
    """The mark of a place that isn't the first."""
    ahead = order[:place]
    if order[place] > max(ahead):
        return 3
    if order[place] < min(ahead):
        return 0
    return 2 if order[place] > ahead[-1] else 1


def is_machine(thing):
    """Whether thing, which may be anything, is a machine."""
    if not isinstance(thing, tuple) or len(thing) != 2 or not isinstance(thing[0], tuple):
        return False
    rows, ends = thing
    states = len(rows)
    if not all([are_below(row, states) and len(row) == len(MARKS) for row in rows]):
        return False
    return states > 0 and are_below(ends, states) and are_rising(ends)


def state_after(machine, begun):
    """The state to which machine comes by the numbers begun, the first ones of an order."""
    rows = machine[0]
    state = 0
    for mark in marks(begun):
        state = rows[state][mark]
    return state


def meets(machine, order):
    """Whether machine meets order."""
    return state_after(machine, order) in machine[1]


def opposite(machine):
    """The machine that meets just the orders that machine doesn't."""
    rows, ends = machine
    return (rows, tuple([state for state in range(len(rows)) if state not in ends]))


def both(one, other):
    """The machine that meets just the orders that both meet."""
    # A state is a pair, one's and other's, and has the pair's number as pairs rise: that of (0, 0) is 0.
    pairs = [(mine, its) for mine in range(len(one[0])) for its in range(len(other[0]))]
    rows = tuple([joined_row(one[0][mine], other[0][its], len(other[0])) for mine, its in pairs])
    ends = tuple([at for at, (mine, its) in enumerate(pairs) if mine in one[1] and its in other[1]])
    return (rows, ends)


def joined_row(one, other, many):
    """The row of a pair of states, by the rows of both, other being of a machine of so many states."""
    return tuple([one[mark] * many + other[mark] for mark in MARKS])


def either(one, other):
    """The machine that meets just the orders that one or other meets, or both."""
    return opposite(both(opposite(one), opposite(other)))
