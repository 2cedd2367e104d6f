"""How many orders a machine meets, and which."""

from shuffletold.beginnings import nth_by, numbers_left, place_by
from shuffletold.marks import state_after


def met(machine, many):
    """How many orders of so many machine meets."""
    rows, ends = machine
    # For each state, of the orders of the things so far that come to it, how many have each rank, from 0, of
    # the last number among all. The one order of none has no marks, as that of one.
    ranks = [[1]] + [[0] for row in rows[1:]]
    for size in range(1, many):
        ranks = one_behind(rows, ranks, size)
    return sum([sum(ranks[state]) for state in ends])


def one_behind(rows, ranks, size):
    """The ranks with one thing more behind those so far, of which there are so many."""
    longer = [[0] * (size + 1) for row in rows]
    for row, ways in zip(rows, ranks):
        lowest, fallen, risen, highest = [longer[state] for state in row]
        orders = sum(ways)
        lowest[0] += orders
        highest[size] += orders
        lesser = 0
        for rank in range(1, size):
            # It stands above a last one of a rank below its own, and below all others.
            lesser += ways[rank - 1]
            risen[rank] += lesser
            fallen[rank] += orders - lesser
    return longer


def nth_met(machine, many, at):
    """Of the orders of so many that machine meets, as tuples rise, that with just at ahead; None if there is none."""
    levels = ways_left(machine, many)
    return nth_by(lambda begun: ways_met(machine, levels, many, begun), many, at)


def place_met(machine, order):
    """How many orders of as many things that machine meets are ahead of order."""
    levels = ways_left(machine, len(order))
    return place_by(lambda begun: ways_met(machine, levels, len(order), begun), order)


def ways_met(machine, levels, many, begun):
    """How many orders of so many that machine meets begin with begun, levels being ways_left of so many."""
    if not begun:
        return met(machine, many)
    left = numbers_left(many, begun)
    return levels[len(left)][gaps_of(begun, left)][state_after(machine, begun)]


def gaps_of(begun, left):
    """How many of those left stand below all of begun, else below its last, else below its highest, and above all."""
    below = sum([1 for number in left if number < min(begun)])
    lesser = sum([1 for number in left if number < begun[-1]])
    above = sum([1 for number in left if number > max(begun)])
    return (below, lesser - below, len(left) - lesser - above, above)


def ways_left(machine, many):
    """For each number of things left, below many, a dict: by the gaps in which they stand, how many ends are met.

    Each is told as a list, for each state in which machine may be.
    """
    rows, ends = machine
    levels = [{(0, 0, 0, 0): [1 if state in ends else 0 for state in range(len(rows))]}]
    for left in range(1, many):
        ahead = levels[-1]
        level = {}
        for gaps in gaps_all(left):
            going = gaps_on(gaps)
            level[gaps] = [sum([ahead[later][row[mark]] for mark, later in going]) for row in rows]
        levels.append(level)
    return levels


def gaps_all(left):
    """The list of all gaps of so many left."""
    return [
        (below, under, over, left - below - under - over)
        for below in range(left + 1)
        for under in range(left - below + 1)
        for over in range(left - below - under + 1)
    ]


def gaps_on(gaps):
    """The list, for each thing left, of the mark that it has if it comes next, and of the gaps from there on."""
    below, under, over, above = gaps
    inner = under + over
    lowest = [(0, (passed, 0, below - 1 - passed + inner, above)) for passed in range(below)]
    fallen = [(1, (below, passed, inner - 1 - passed, above)) for passed in range(under)]
    risen = [(2, (below, under + passed, over - 1 - passed, above)) for passed in range(over)]
    highest = [(3, (below, inner + passed, 0, above - 1 - passed)) for passed in range(above)]
    return lowest + fallen + risen + highest
