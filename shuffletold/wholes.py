"""What a whole number is, asked of anything."""


def is_whole(thing):
    """Whether thing is an int that is no truth."""
    # True and False are ints to Python, so they are taken out by name.
    return isinstance(thing, int) and not isinstance(thing, bool)
