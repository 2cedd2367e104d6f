"""Counts of two kinds together, of all kinds together, and how two kinds lean on one another."""

from shuffletold.counts import count
from shuffletold.orders import all_orders
from shuffletold.shares import less, share_of, times
from shuffletold.told import told

KINDS = ("rounds", "stays", "rises", "highs", "crossed", "longest")


def together(one, other, many):
    """The rows, by the counts of one, of how many orders of so many have each count of other beside it."""
    numbers = pairs_told(one, other, many)
    rows = list(range(len(told(one, many))))
    columns = list(range(len(told(other, many))))
    return tuple([tuple([numbers.get((k, j), 0) for j in columns]) for k in rows])


def whole(many):
    """The rising tuple of (counts of all kinds, how many orders of so many have all these)."""
    numbers = {}
    for order in all_orders(many):
        counts = tuple([count(kind, order) for kind in KINDS])
        numbers[counts] = numbers.get(counts, 0) + 1
    return tuple(sorted(numbers.items()))


def lean(one, other, many):
    """The mean of the product of both counts, less the product of both means."""
    table = together(one, other, many)
    cells = [(k, j, number) for k, row in enumerate(table) for j, number in enumerate(row)]
    orders = sum([number for k, j, number in cells])
    product_mean = share_of(sum([k * j * number for k, j, number in cells]), orders)
    one_mean = share_of(sum([k * number for k, j, number in cells]), orders)
    other_mean = share_of(sum([j * number for k, j, number in cells]), orders)
    return less(product_mean, times(one_mean, other_mean))


def rounds_and_stays_on(many, rounds, stays):
    """Where the number many, put into an order of so many with these counts, leads."""
    # It stays at a place of its own, or goes into a round, behind a number that stayed or that didn't.
    return [(rounds + 1, stays + 1, 1), (rounds, stays - 1, stays), (rounds, stays, many - stays)]


def rises_and_highs_on(many, rises, highs):
    """Where a number below all others, put into an order of so many with these counts, leads."""
    if many == 0:
        return [(0, 1, 1)]
    falls = many - 1 - rises
    # It is first, and a new highest; or it parts two that rise, or is last; or it parts two that fall.
    return [(rises + 1, highs + 1, 1), (rises, highs, rises + 1), (rises + 1, highs, falls)]


def highs_and_crossed_on(many, highs, crossed):
    """Where a number below all others, put into an order of so many with these counts, leads."""
    # It is first, and a new highest, or crosses all those that are ahead of it.
    behind = [(highs, crossed + ahead, 1) for ahead in range(1, many + 1)]
    return [(highs + 1, crossed, 1)] + behind


ONWARDS = {
    ("rounds", "stays"): rounds_and_stays_on,
    ("rises", "highs"): rises_and_highs_on,
    ("highs", "crossed"): highs_and_crossed_on,
}


def pairs_told(one, other, many):
    """A dict of how many orders of so many have each pair of counts; none has a pair that isn't there."""
    onward = ONWARDS[(one, other)]
    numbers = {(0, 0): 1}
    for size in range(many):
        larger = {}
        for (first, second), orders in numbers.items():
            for first_on, second_on, ways in onward(size, first, second):
                pair = (first_on, second_on)
                larger[pair] = larger.get(pair, 0) + orders * ways
        numbers = larger
    return numbers
