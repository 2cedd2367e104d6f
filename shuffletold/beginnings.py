"""Orders found, and placed, number by number, by how many go on from each beginning.

Ways are a function that tells of a beginning, a tuple of unlike numbers, how many of some orders begin so.
"""


def numbers_left(many, begun):
    """The list of the numbers below many that begun doesn't have, rising."""
    return [number for number in range(many) if number not in begun]


def nth_by(ways, many, at):
    """Of the orders of so many that ways tell of, as tuples rise, that with just at ahead; None where there is none."""
    begun = ()
    ahead = at
    if ahead >= ways(begun):
        return None
    for place in range(many):
        for number in numbers_left(many, begun):
            found = ways(begun + (number,))
            if ahead < found:
                begun = begun + (number,)
                break
            ahead -= found
    return begun


def place_by(ways, order):
    """How many of the orders of as many things that ways tell of are ahead of order, as tuples rise."""
    # Those ahead begin like order up to some place, and have less there.
    return sum([
        ways(order[:place] + (number,))
        for place in range(len(order))
        for number in numbers_left(order[place], order[:place])
    ])
