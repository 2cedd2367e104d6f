"""Throws of dice, one for each place, and the orders that they lead to."""

from shuffletold.wholes import is_whole


def is_throws(thing):
    """Whether thing, which may be anything, is throws."""
    if not isinstance(thing, tuple):
        return False
    return all([is_whole(throw) and 0 <= throw <= place for place, throw in enumerate(thing)])


def order_of(throws):
    """The order in which so many of the numbers ahead of each place are greater as throws tell there."""
    numbers = []
    left = list(range(len(throws)))
    for place in range(len(throws) - 1, -1, -1):
        # What is left stands at this place and ahead, so just the greater ones of it are passed over.
        numbers.append(left.pop(place - throws[place]))
    return tuple(numbers[::-1])


def throws_of(order):
    """The throws of which order is the order."""
    return tuple([greater_ahead(order, place) for place in range(len(order))])


def greater_ahead(order, place):
    """How many numbers ahead of place are greater than the one there."""
    return sum([1 for number in order[:place] if number > order[place]])


def swapped(throws):
    """The order made of (0, 1, ..) by exchanging, place by place, what stands there and where throws tell."""
    numbers = list(range(len(throws)))
    for place, throw in enumerate(throws):
        numbers[place], numbers[throw] = numbers[throw], numbers[place]
    return tuple(numbers)


def swaps_of(order):
    """The throws of which order is so made."""
    numbers = list(order)
    throws = []
    for place in range(len(order) - 1, -1, -1):
        # Ahead of its own exchange a place had its own number, so this one tells where it went.
        throw = numbers.index(place)
        numbers[place], numbers[throw] = numbers[throw], numbers[place]
        throws.append(throw)
    return tuple(throws[::-1])


def highs_read(throws):
    """How many highs the order of throws has."""
    return sum([1 for throw in throws if throw == 0])


def crossed_read(throws):
    """How many pairs the order of throws has crossed."""
    return sum(throws)


def rises_read(throws):
    """How many rises the order of throws has."""
    return sum([1 for ahead, throw in zip(throws, throws[1:]) if throw <= ahead])


def rounds_read(throws):
    """How many rounds the order swapped by throws has."""
    return sum([1 for place, throw in enumerate(throws) if throw == place])


READERS = {
    "highs": highs_read,
    "crossed": crossed_read,
    "rises": rises_read,
    "rounds": rounds_read,
}


def read(kind, throws):
    """The count of kind, read off throws: of rounds that of swapped, else that of order_of."""
    reader = READERS[kind]
    return reader(throws)


def throws_at(many, number):
    """The throws of so many that have just number others ahead of them, as tuples rise."""
    throws = []
    left = number
    for place in range(many - 1, -1, -1):
        # The last place turns fastest, and each place k has k + 1 throws.
        left, throw = divmod(left, place + 1)
        throws.append(throw)
    return tuple(throws[::-1])


def number_of(throws):
    """How many throws of as many are ahead of these."""
    number = 0
    for place, throw in enumerate(throws):
        number = number * (place + 1) + throw
    return number
