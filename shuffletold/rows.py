"""Longest rising rows, with what shows that none is longer."""

from shuffletold.wholes import are_below, are_rising


def longest_row(order):
    """A longest rising row of places of order, and as many falling rows that have each place once among them."""
    falls = []
    ahead = []
    for place, number in enumerate(order):
        # The numbers at the falls' last places rise, fall by fall: those that are less are the first ones.
        at = sum([1 for fall in falls if order[fall[-1]] < number])
        ahead.append(falls[at - 1][-1] if at > 0 else None)
        if at == len(falls):
            falls.append([])
        falls[at].append(place)
    return (row_back(falls, ahead), tuple([tuple(fall) for fall in falls]))


def row_back(falls, ahead):
    """The row to a place of the last fall, ahead telling for each place the one ahead of it in a rising row."""
    row = []
    place = falls[-1][-1] if falls else None
    while place is not None:
        row.append(place)
        place = ahead[place]
    return tuple(row[::-1])


def shows_longest(order, thing):
    """Whether thing, which may be anything, shows a longest rising row of order by as many falls."""
    if not isinstance(thing, tuple) or len(thing) != 2 or not isinstance(thing[1], tuple):
        return False
    row, falls = thing
    if not is_rising_row(order, row) or len(falls) != len(row):
        return False
    # Two places of a rising row are never in one fall, so as many falls let none be longer.
    return all([is_fall(order, fall) for fall in falls]) and have_each_once(falls, len(order))


def is_rising_row(order, thing):
    """Whether thing, which may be anything, is a rising tuple of places of order at which the numbers rise."""
    return are_below(thing, len(order)) and are_rising(thing) and are_rising([order[place] for place in thing])


def is_fall(order, thing):
    """Whether thing, which may be anything, is a rising tuple of places, one or more, at which the numbers fall."""
    if not are_below(thing, len(order)) or not are_rising(thing):
        return False
    return len(thing) > 0 and are_rising([-order[place] for place in thing])


def have_each_once(falls, many):
    """Whether these tuples of places have each place below many just once among them."""
    return sorted([place for fall in falls for place in fall]) == list(range(many))
