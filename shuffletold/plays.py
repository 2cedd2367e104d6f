"""Plays by a rule: whether one is won, and in which share of the orders."""

from shuffletold.stopping import by_laying, from_place


def wins(plan, order):
    """Whether the play by this rule is won where the things come as order has them."""
    left = len(plan)
    highest = -1
    held = False
    for place, number in enumerate(order):
        if number > highest:
            highest = number
            # What was laid on those ahead is lost, as this one is greater.
            held = left > 0 and place in plan[left - 1]
            if held:
                left -= 1
    return held


def rule_share(many, plan):
    """The share of the orders of so many in which the play by this rule is won."""
    row = ((0, 1),) * (many + 1)
    for places in plan:
        row = row_by_places(many, places, row)
    return row[0]


def row_by_places(many, places, fewer):
    """The shares of winning from each place on where one is laid at places, fewer being those of one hand fewer."""
    row = [(0, 1)]
    for place in range(many - 1, -1, -1):
        waiting = row[-1]
        seen = by_laying(many, place, fewer[place + 1]) if place in places else waiting
        row.append(from_place(place, waiting, seen))
    return tuple(row[::-1])
