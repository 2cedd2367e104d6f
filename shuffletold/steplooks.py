"""Whether a paper of steps, by whomever it was made, tells the counts of a kind."""

from shuffletold.steprows import FIRST_ROW, next_row
from shuffletold.wholes import are_just


def shows_steps(kind, thing):
    """Whether thing, which may be anything, is the steps of kind, any but longest."""
    if not isinstance(thing, tuple) or not thing or not are_just(thing[0], FIRST_ROW):
        return False
    for many in range(1, len(thing)):
        # The row ahead was found right, so no row is reckoned of what isn't one.
        if not are_just(thing[many], next_row(kind, many, thing[many - 1])):
            return False
    return True
