"""What whole numbers are, and tuples of them, asked of anything."""


def is_whole(thing):
    """Whether thing is an int that is no truth."""
    # True and False are ints to Python, so they are taken out by name.
    return isinstance(thing, int) and not isinstance(thing, bool)


def are_below(thing, many):
    """Whether thing is a tuple of whole numbers from 0 below many."""
    return isinstance(thing, tuple) and all([is_whole(number) and 0 <= number < many for number in thing])


def are_rising(numbers):
    """Whether each of these numbers but the last is less than the next one."""
    return all([ahead < behind for ahead, behind in zip(numbers, numbers[1:])])
