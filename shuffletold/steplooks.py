"""Whether a paper of steps, by whomever it was made, tells the counts of a kind."""

from shuffletold.steprows import FIRST_ROW, next_row
from shuffletold.wholes import is_whole


def shows_steps(kind, thing):
    """Whether thing, which may be anything, is the steps of kind, any but longest."""
    if not isinstance(thing, tuple) or not thing or not is_row(thing[0], FIRST_ROW):
        return False
    for many in range(1, len(thing)):
        # The row ahead was found right, so no row is reckoned of what isn't one.
        if not is_row(thing[many], next_row(kind, many, thing[many - 1])):
            return False
    return True


def is_row(thing, row):
    """Whether thing, which may be anything, is just this row of whole numbers."""
    # A truth is equal to 0 or 1, so equal rows alone are no proof of whole numbers.
    if not isinstance(thing, tuple) or not all([is_whole(number) for number in thing]):
        return False
    return thing == row
