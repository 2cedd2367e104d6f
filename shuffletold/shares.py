"""Shares: tuples (over, under) of whole numbers in lowest terms, under from 1 on."""

from shuffletold.wholes import are_wholes


def is_share(thing):
    """Whether thing, which may be anything, is a share."""
    if not are_wholes(thing) or len(thing) != 2:
        return False
    return thing[1] >= 1 and greatest_divisor(thing[0], thing[1]) == 1


def share_of(over, under):
    """The share that is over parted by under, which is 1 or more."""
    both = greatest_divisor(over, under)
    return (over // both, under // both)


def plus(one, other):
    """One and other, both shares, together."""
    return share_of(one[0] * other[1] + other[0] * one[1], one[1] * other[1])


def less(one, other):
    """One less other, both shares."""
    return share_of(one[0] * other[1] - other[0] * one[1], one[1] * other[1])


def times(one, other):
    """The product of two shares."""
    return share_of(one[0] * other[0], one[1] * other[1])


def parted(one, other):
    """One, a share, parted by other, a share above 0."""
    return share_of(one[0] * other[1], one[1] * other[0])


def is_less(one, other):
    """Whether one is less than other, both shares."""
    return one[0] * other[1] < other[0] * one[1]


def lesser(one, other):
    """The lesser one of two shares."""
    return other if is_less(other, one) else one


def greater(one, other):
    """The greater one of two shares."""
    return other if is_less(one, other) else one


def greatest_divisor(over, under):
    """The greatest number that parts both without a rest, under being 1 or more."""
    # A rest by a number above 0 is never below 0, so neither is what is told, whatever over is.
    one, other = over, under
    while other != 0:
        one, other = other, one % other
    return one
