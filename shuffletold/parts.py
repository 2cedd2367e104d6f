"""The parts that a count is made of, and the shares of the orders that have one of them, or two."""

from shuffletold.shares import share_of, times


def numbers_below(many):
    """The parts of rounds, stays and highs."""
    return tuple([(k,) for k in range(many)])


def places_but_last(many):
    """The parts of rises."""
    return tuple([(k,) for k in range(many - 1)])


def place_pairs(many):
    """The parts of crossed."""
    return tuple([(k, j) for k in range(many) for j in range(k + 1, many)])


PARTS = {
    "rounds": numbers_below,
    "stays": numbers_below,
    "rises": places_but_last,
    "highs": numbers_below,
    "crossed": place_pairs,
}


def parts(kind, many):
    """The rising tuple of the parts of kind, any but longest, of orders of so many."""
    listed = PARTS[kind]
    return listed(many)


def is_round_greatest(part, order):
    """Whether the number is the greatest one of its round."""
    # Whoever goes round from it comes back to it ahead of all greater ones just where there are none.
    number = order[part[0]]
    while number < part[0]:
        number = order[number]
    return number == part[0]


def is_stay(part, order):
    """Whether the number stands at the place of its own."""
    return order[part[0]] == part[0]


def is_rise(part, order):
    """Whether less stands at the place than at the next one."""
    return order[part[0]] < order[part[0] + 1]


def is_high(part, order):
    """Whether more stands at the place than at each place ahead."""
    return all([number < order[part[0]] for number in order[:part[0]]])


def is_crossed(part, order):
    """Whether more stands at the first of both places than at the second."""
    return order[part[0]] > order[part[1]]


HAVING = {
    "rounds": is_round_greatest,
    "stays": is_stay,
    "rises": is_rise,
    "highs": is_high,
    "crossed": is_crossed,
}


def has(kind, part, order):
    """Whether order has this part of kind."""
    having = HAVING[kind]
    return having(part, order)


def round_share(many, part):
    """The share of the orders in which the number is the greatest one of its round."""
    # Of it and all greater ones each is as likely to be the first of these that is come to from it.
    return (1, many - part[0])


def stay_share(many, part):
    """The share of the orders in which the number stays."""
    return (1, many)


def half_share(many, part):
    """The share of the orders in which one of two numbers is the greater one."""
    return (1, 2)


def high_share(many, part):
    """The share of the orders in which the place has a new highest."""
    # Of the places up to this one each is as likely to have their greatest number.
    return (1, part[0] + 1)


ONE_SHARES = {
    "rounds": round_share,
    "stays": stay_share,
    "rises": half_share,
    "highs": high_share,
    "crossed": half_share,
}


def one_share(kind, many, part):
    """The share of the orders of so many that have this part of kind."""
    sharer = ONE_SHARES[kind]
    return sharer(many, part)


def both_rounds(many, one, other):
    """The share of both, of rounds."""
    # Where the lesser numbers lead has no say in which greater one comes first: neither leans on the other.
    return times(round_share(many, one), round_share(many, other))


def both_stays(many, one, other):
    """The share of both, of stays."""
    return share_of(1, many * (many - 1))


def both_rises(many, one, other):
    """The share of both, of rises."""
    # Neighbours have three places between them, all rising; others have no place in common.
    return (1, 6) if abs(one[0] - other[0]) == 1 else (1, 4)


def both_highs(many, one, other):
    """The share of both, of highs."""
    # How those ahead stand among themselves has no say in how a later one stands to them.
    return times(high_share(many, one), high_share(many, other))


def both_crossed(many, one, other):
    """The share of both, of crossed."""
    if one[0] == other[0] or one[1] == other[1]:
        # The common place has the greatest, or the least, of three numbers.
        return (1, 3)
    if one[0] == other[1] or one[1] == other[0]:
        # The three numbers fall.
        return (1, 6)
    return (1, 4)


BOTH_SHARES = {
    "rounds": both_rounds,
    "stays": both_stays,
    "rises": both_rises,
    "highs": both_highs,
    "crossed": both_crossed,
}


def both_share(kind, many, one, other):
    """The share of the orders of so many that have both parts of kind, which may be the same one."""
    if one == other:
        return one_share(kind, many, one)
    sharer = BOTH_SHARES[kind]
    return sharer(many, one, other)
