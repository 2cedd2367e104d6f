"""Whole numbers: what they are, and tuples of them, asked of anything; and products of them."""


def is_whole(thing):
    """Whether thing is an int that is no truth."""
    # True and False are ints to Python, so they are taken out by name.
    return isinstance(thing, int) and not isinstance(thing, bool)


def are_wholes(thing):
    """Whether thing is a tuple of whole numbers."""
    return isinstance(thing, tuple) and all([is_whole(number) for number in thing])


def are_below(thing, many):
    """Whether thing is a tuple of whole numbers from 0 below many."""
    return are_wholes(thing) and all([0 <= number < many for number in thing])


def are_just(thing, numbers):
    """Whether thing is just this tuple of whole numbers."""
    # A truth is equal to 0 or 1, so equal tuples alone are no proof of whole numbers.
    return are_wholes(thing) and thing == numbers


def are_rising(numbers):
    """Whether each of these numbers but the last is less than the next one."""
    return all([ahead < behind for ahead, behind in zip(numbers, numbers[1:])])


def product(first, last):
    """The product of the numbers from first to last, 1 of none."""
    found = 1
    for number in range(first, last + 1):
        found = found * number
    return found
