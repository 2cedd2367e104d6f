"""Means and spreads of counts, by the shares of their parts."""

from shuffletold.parts import one_share, parts
from shuffletold.shares import less, plus, share_of, times


def highs_mean(many):
    """The mean of highs, and of rounds, whose parts have the same shares."""
    total = (0, 1)
    for part in parts("highs", many):
        total = plus(total, one_share("highs", many, part))
    return total


def highs_spread(many):
    """The spread of highs, and of rounds."""
    total = (0, 1)
    for part in parts("highs", many):
        # The share of two unlike parts is just the product, so what each brings with itself is all.
        own = one_share("highs", many, part)
        total = plus(total, less(own, times(own, own)))
    return total


def stays_mean(many):
    """The mean of stays: of each of many parts one over many."""
    return (1, 1) if many > 0 else (0, 1)


def stays_spread(many):
    """The spread of stays."""
    # All parts with themselves bring 1 - 1 / many; all with others, of which there are many * (many - 1),
    # 1 - (many - 1) / many, where there are others.
    return (1, 1) if many > 1 else (0, 1)


def rises_mean(many):
    """The mean of rises: a half for each place but the last."""
    return share_of(max(many - 1, 0), 2)


def rises_spread(many):
    """The spread of rises."""
    # A part with itself brings 1 / 2 - 1 / 4, with a neighbour 1 / 6 - 1 / 4, with any other one nothing.
    themselves = max(many - 1, 0)
    neighbours = 2 * max(many - 2, 0)
    return share_of(3 * themselves - neighbours, 12)


def crossed_mean(many):
    """The mean of crossed: a half for each two places."""
    return share_of(many * (many - 1) // 2, 2)


def crossed_spread(many):
    """The spread of crossed."""
    # A part with itself brings 1 / 2 - 1 / 4. Each three places have six ways to take one part and a touching one:
    # in four the common place is first in both or last in both, 1 / 3 - 1 / 4, in two it isn't, 1 / 6 - 1 / 4.
    twos = many * (many - 1) // 2
    threes = twos * (many - 2) // 3
    return share_of(3 * twos + 2 * threes, 12)


MEANS = {
    "rounds": highs_mean,
    "stays": stays_mean,
    "rises": rises_mean,
    "highs": highs_mean,
    "crossed": crossed_mean,
}

SPREADS = {
    "rounds": highs_spread,
    "stays": stays_spread,
    "rises": rises_spread,
    "highs": highs_spread,
    "crossed": crossed_spread,
}


def mean(kind, many):
    """The mean of the counts of kind, any but longest, over all orders of so many."""
    reckoned = MEANS[kind]
    return reckoned(many)


def spread(kind, many):
    """The mean of the squares by which these counts differ from their mean."""
    reckoned = SPREADS[kind]
    return reckoned(many)
