"""How many orders of so many have each count of a kind, and the shares that come of it."""

from shuffletold.shares import share_of
from shuffletold.steprows import FIRST_ROW, next_row


def told(kind, many):
    """The tuple of how many orders of so many have the count 0, 1, .. to the greatest that one has."""
    if kind == "longest":
        return longest_told(many)
    return steps(kind, many)[many]


def share(kind, many, counts):
    """The share of the orders of so many whose count is one of counts."""
    row = told(kind, many)
    # Counts that no order has, below 0 too, are no places of row.
    having = sum([row[number] for number in counts if 0 <= number < len(row)])
    return share_of(having, sum(row))


def steps(kind, many):
    """The tuple of what is told of kind, any but longest, for 0 to many things."""
    rows = [FIRST_ROW]
    for size in range(1, many + 1):
        rows.append(next_row(kind, size, rows[-1]))
    return tuple(rows)


def longest_told(many):
    """What is told of longest."""
    numbers = [0] * (many + 1)
    for shape, ways in fillings_of(many).items():
        # Orders and pairs of tables of one shape, the first row as long as the longest, are exchanged one by one.
        longest = shape[0] if shape else 0
        numbers[longest] += ways * ways
    return tuple(numbers)


def fillings_of(many):
    """A dict of how many tables each shape of so many places has."""
    fillings = {(): 1}
    for size in range(many):
        larger = {}
        for shape, ways in fillings.items():
            # The greatest number of a table stands at a place that can be taken away last.
            for grown in shapes_grown(shape):
                larger[grown] = larger.get(grown, 0) + ways
        fillings = larger
    return fillings


def shapes_grown(shape):
    """The list of the shapes that shape becomes by one more place."""
    grown = [shape + (1,)]
    for at, length in enumerate(shape):
        if at == 0 or shape[at - 1] > length:
            grown.append(shape[:at] + (length + 1,) + shape[at + 1:])
    return grown
