"""What an order has of each of the six kinds."""

from shuffletold.rounds import rounds_of


def rounds_in(order):
    """How many rounds order has."""
    return len(rounds_of(order))


def stays_in(order):
    """How many places k have k."""
    return sum([1 for place, number in enumerate(order) if number == place])


def rises_in(order):
    """How many places have less than the next one."""
    return sum([1 for number, behind in zip(order, order[1:]) if number < behind])


def highs_in(order):
    """How many places have more than each place ahead."""
    highs = 0
    highest = -1
    for number in order:
        if number > highest:
            highs += 1
            highest = number
    return highs


def crossed_in(order):
    """How many pairs of places have the greater number at the one ahead."""
    return sum([1 for place, number in enumerate(order) for ahead in order[:place] if ahead > number])


def longest_in(order):
    """How many places at most can be taken so that their numbers rise as they do."""
    # lasts[k] is the least number that k + 1 such places, of those so far, can end with.
    lasts = []
    for number in order:
        at = sum([1 for last in lasts if last < number])
        if at == len(lasts):
            lasts.append(number)
        else:
            lasts[at] = number
    return len(lasts)


COUNTERS = {
    "rounds": rounds_in,
    "stays": stays_in,
    "rises": rises_in,
    "highs": highs_in,
    "crossed": crossed_in,
    "longest": longest_in,
}


def count(kind, order):
    """The count that order has of kind, one of the six texts."""
    counter = COUNTERS[kind]
    return counter(order)
