"""Whether a table, by whomever it was made, shows that no way to play wins more than it tells."""

from shuffletold.shares import is_less, is_share
from shuffletold.stopping import best_from


def shows_no_better(many, hands, thing):
    """Whether thing, which may be anything, is a table of shares that no way to play wins in a greater one."""
    if not isinstance(thing, tuple) or len(thing) != hands + 1:
        return False
    if not all([are_shares(row, many + 1) for row in thing]):
        return False
    if any([over < 0 for over, under in thing[0]]):
        return False
    return all([is_enough(many, row, fewer) for fewer, row in zip(thing, thing[1:])])


def are_shares(thing, many):
    """Whether thing, which may be anything, is a tuple of so many shares."""
    return isinstance(thing, tuple) and len(thing) == many and all([is_share(part) for part in thing])


def is_enough(many, row, fewer):
    """Whether no share of row is below what those behind it and those of fewer, the row of one hand fewer, make."""
    return row[many][0] >= 0 and not any([
        is_less(row[place], best_from(many, place, row[place + 1], fewer[place + 1])) for place in range(many)
    ])
