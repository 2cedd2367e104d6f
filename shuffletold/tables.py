"""Tables: what they are, their shapes, how many a shape has, and orders exchanged for two of them."""

from shuffletold.told import fillings_of
from shuffletold.wholes import are_rising, are_wholes, product


def is_table(thing):
    """Whether thing, which may be anything, is a table, of any shape."""
    if not isinstance(thing, tuple) or not all([is_table_row(row) for row in thing]):
        return False
    if not all([stands_above(row, below) for row, below in zip(thing, thing[1:])]):
        return False
    numbers = [number for row in thing for number in row]
    return sorted(numbers) == list(range(len(numbers)))


def is_table_row(thing):
    """Whether thing, which may be anything, is a tuple of whole numbers, one or more, that rise."""
    return are_wholes(thing) and len(thing) > 0 and are_rising(thing)


def stands_above(row, below):
    """Whether below is no longer than row, and has more than row in each column."""
    return len(below) <= len(row) and all([number < lower for number, lower in zip(row, below)])


def shapes(many):
    """The rising tuple of all shapes in which there are so many."""
    return tuple(sorted(fillings_of(many)))


def fillings(shape):
    """How many tables this shape has."""
    # All ways to fill it, over the product of how many stand at each place, behind it and below it.
    hooks = 1
    for row, length in enumerate(shape):
        for column in range(length):
            below = sum([1 for lower in shape[row + 1:] if lower > column])
            hooks = hooks * (length - column + below)
    return product(1, sum(shape)) // hooks


def tables(order):
    """The two tables of order: its numbers put in one by one, and the places that came to be so."""
    one = []
    other = []
    for place, number in enumerate(order):
        at = put_in(one, number)
        if at == len(other):
            other.append([])
        other[at].append(place)
    return (as_table(one), as_table(other))


def as_table(rows):
    """The table of these rows."""
    return tuple([tuple(row) for row in rows])


def put_in(rows, number):
    """Puts number into rows, and tells the row in which a new place comes to be so."""
    going = number
    for at, row in enumerate(rows):
        column = sum([1 for standing in row if standing < going])
        if column == len(row):
            row.append(going)
            return at
        row[column], going = going, row[column]
    rows.append([going])
    return len(rows) - 1


def order_of_tables(one, other):
    """The order of which these are the two tables."""
    rows = [list(row) for row in one]
    numbers = []
    for at in rows_from_last(other):
        numbers.append(take_out(rows, at))
    return tuple(numbers[::-1])


def rows_from_last(other):
    """The list of the rows of other in which the places of an order came to be, from its last place on."""
    found = {place: at for at, row in enumerate(other) for place in row}
    return [found[place] for place in range(len(found) - 1, -1, -1)]


def take_out(rows, at):
    """Takes the last place of the row at away, and tells the number that had been put into rows to make it."""
    going = rows[at].pop()
    for higher in range(at - 1, -1, -1):
        row = rows[higher]
        # It was pushed down by the greatest number there that is less.
        column = sum([1 for standing in row if standing < going]) - 1
        row[column], going = going, row[column]
    return going
