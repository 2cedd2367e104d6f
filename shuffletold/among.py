"""The so-manieth order of a kind's count, and the number of an order among those of its count."""

from shuffletold.beginnings import nth_by, numbers_left, place_by
from shuffletold.counts import count, crossed_in, highs_in, rises_in, stays_in
from shuffletold.steprows import next_row, number_at
from shuffletold.told import told
from shuffletold.wholes import product

# An ending tells of a beginning the count that it has by itself, whatever comes behind it, and a row: how many
# orders go on from it with 0, 1, .. beyond that.


def rounds_ending(many, begun):
    """The ending of rounds."""
    # What isn't a whole round yet is as many open rows as there are places left: each is like one number.
    closed = sum([1 for first in range(len(begun)) if is_round_least(begun, first)])
    return (closed, told("rounds", many - len(begun)))


def is_round_least(begun, first):
    """Whether first is the least number of a round that begun has as a whole."""
    number = begun[first]
    while first < number < len(begun):
        number = begun[number]
    return number == first


def stays_ending(many, begun):
    """The ending of stays."""
    left = numbers_left(many, begun)
    able = sum([1 for number in left if number >= len(begun)])
    # Those that can't stay come in any order; each of the others is put in as it is in the steps of stays.
    row = (product(1, len(left) - able),)
    for size in range(len(left) - able + 1, len(left) + 1):
        row = next_row("stays", size, row)
    return (stays_in(begun), row)


def rises_ending(many, begun):
    """The ending of rises."""
    if not begun:
        return (0, told("rises", many))
    left = numbers_left(many, begun)
    lesser = sum([1 for number in left if number < begun[-1]])
    row = (1,)
    # Behind the last number of begun, which stays first, the greater ones are put in rising, the lesser ones falling.
    for size in range(1, len(left) - lesser + 1):
        row = greatest_put_in(size, row)
    for size in range(len(left) - lesser + 1, len(left) + 1):
        row = least_put_in(size, row)
    return (rises_in(begun), row)


def greatest_put_in(size, row):
    """The row of rises with a number above all put in, anywhere but at first, row being that of so many."""
    # Between two that rise it leaves the rises as they are; between two that fall, or as the last, it brings one.
    return tuple([k * number_at(row, k) + (size - k + 1) * number_at(row, k - 1) for k in range(size + 1)])


def least_put_in(size, row):
    """The row of rises with a number below all put in, anywhere but at first, row being that of so many."""
    # Between two that rise, or as the last, it leaves the rises as they are; between two that fall it brings one.
    return tuple([(k + 1) * number_at(row, k) + (size - k) * number_at(row, k - 1) for k in range(size + 1)])


def highs_ending(many, begun):
    """The ending of highs."""
    left = numbers_left(many, begun)
    able = sum([1 for number in left if number > max(begun, default=-1)])
    # Those that can't be a new highest stand anywhere between the others.
    ways = product(able + 1, len(left))
    return (highs_in(begun), tuple([ways * orders for orders in told("highs", able)]))


def crossed_ending(many, begun):
    """The ending of crossed."""
    left = numbers_left(many, begun)
    behind = sum([1 for ahead in begun for number in left if number < ahead])
    return (crossed_in(begun) + behind, told("crossed", len(left)))


ENDINGS = {
    "rounds": rounds_ending,
    "stays": stays_ending,
    "rises": rises_ending,
    "highs": highs_ending,
    "crossed": crossed_ending,
}


def ways_on(kind, many, begun, number):
    """How many orders of so many begin with begun and have this count of kind, any but longest."""
    ending = ENDINGS[kind]
    sure, row = ending(many, begun)
    return number_at(row, number - sure)


def nth(kind, many, number, at):
    """Of the orders of so many with this count, as tuples rise, that with just at ahead; None where there is none."""
    return nth_by(lambda begun: ways_on(kind, many, begun, number), many, at)


def place_among(kind, order):
    """How many orders of as many things, of the same count, are ahead of order."""
    number = count(kind, order)
    return place_by(lambda begun: ways_on(kind, len(order), begun, number), order)
