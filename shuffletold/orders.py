"""Orders: what they are, all of so many, and how one is made of others."""

from shuffletold.wholes import is_whole


def is_order(thing):
    """Whether thing, which may be anything, is an order."""
    if not isinstance(thing, tuple):
        return False
    many = len(thing)
    seen = [False] * many
    for number in thing:
        if not is_whole(number) or number < 0 or number >= many or seen[number]:
            return False
        seen[number] = True
    # So many unlike numbers below so many leave none out.
    return True


def all_orders(many):
    """The tuple of all orders of so many things, rising."""
    begun = [()]
    for place in range(many):
        # Rising beginnings, each taken on by rising numbers, stay rising.
        begun = [begin + (number,) for begin in begun for number in range(many) if number not in begin]
    return tuple(begun)


def undone(order):
    """The order in which at the place x stands the place at which x stands in order."""
    places = [0] * len(order)
    for place, number in enumerate(order):
        places[number] = place
    return tuple(places)


def after(one, other):
    """The order in which at each place k stands what stands in one at the place other[k]."""
    return tuple([one[place] for place in other])


def mirrored(order):
    """The order from behind."""
    return order[::-1]


def turned(order):
    """The order with each number x made (how many) - 1 - x."""
    greatest = len(order) - 1
    return tuple([greatest - number for number in order])


def beside(one, other):
    """One, and behind it other, whose numbers are greater by as many as one has."""
    return one + lifted(other, len(one))


def above(one, other):
    """One, whose numbers are greater by as many as other has, and behind it other."""
    return lifted(one, len(other)) + other


def lifted(order, by):
    """The tuple of the numbers of order, each greater by so much."""
    return tuple([number + by for number in order])
