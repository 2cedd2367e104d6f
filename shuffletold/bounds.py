"""Bounds of shares and of means that hold for each many, however great."""

from shuffletold.means import mean, spread
from shuffletold.shares import greater, is_less, less, lesser, parted, plus, share_of, times
from shuffletold.wholes import product

# A bound of a kind tells, of a number from 1 on, what the share of the orders that have so many or more is never
# above. It may be above 1.


def stays_bound(many, number):
    """The bound of stays."""
    return (1, product(1, number)) if number <= many else (0, 1)


def longest_bound(many, number):
    """The bound of longest."""
    # Along each set of places one of number! orders rises, and who has so long a row rises along some set.
    return share_of(sets_of(many, number), product(1, number))


def groups_bound(many, number):
    """The bound of rounds and of highs."""
    return share_of(power(many.bit_length(), number), product(1, number))


def rises_bound(many, number):
    """The bound of rises."""
    return spread_bound("rises", many, number)


def crossed_bound(many, number):
    """The bound of crossed."""
    return spread_bound("crossed", many, number)


def spread_bound(kind, many, number):
    """The bound that the mean and the spread of kind give."""
    beyond = less((number, 1), mean(kind, many))
    if not is_less((0, 1), beyond):
        return (1, 1)
    return parted(spread(kind, many), times(beyond, beyond))


def sets_of(many, number):
    """How many sets of number places there are among many."""
    found = 1
    for taken in range(number):
        # Where no place is left to take, this is by 0, and stays so.
        found = found * (many - taken) // (taken + 1)
    return found


def power(base, number):
    """The product of base so many times, 1 of none."""
    found = 1
    for time in range(number):
        found = found * base
    return found


BOUNDS = {
    "rounds": groups_bound,
    "stays": stays_bound,
    "rises": rises_bound,
    "highs": groups_bound,
    "crossed": crossed_bound,
    "longest": longest_bound,
}


def most_share(kind, many, number):
    """What the share of the orders of so many whose count of kind is number or more is never above."""
    if number == 0:
        return (1, 1)
    bound = BOUNDS[kind]
    return lesser((1, 1), bound(many, number))


def between(number, many):
    """Two shares between which the share of the orders with just number stays lies, of each many from this one on."""
    ways = (product(1, number), 1)
    one = parted(turning_sum(many - number), ways)
    other = parted(turning_sum(many - number + 1), ways)
    return (lesser(one, other), greater(one, other))


def turning_sum(last):
    """1 - 1 + 1 / 2! - .., to last! in its turn."""
    total = (0, 1)
    for number in range(last + 1):
        part = (1, product(1, number))
        total = plus(total, part) if number % 2 == 0 else less(total, part)
    return total


def mean_between(many):
    """Two shares between which the mean of highs, and of rounds, of so many lies."""
    figures = many.bit_length()
    return (share_of(figures + 1, 2), (figures, 1))
