"""How hands are laid best by who sees the things come one by one."""

from shuffletold.shares import greater, is_less, plus, share_of, times


def table(many, hands):
    """The rows, for 0 to so many hands left, of the greatest shares of winning from each place on."""
    rows = [((0, 1),) * (many + 1)]
    for left in range(hands):
        rows.append(row_of_one_more(many, rows[-1]))
    return tuple(rows)


def row_of_one_more(many, fewer):
    """The row of one hand more than the row fewer has."""
    row = [(0, 1)]
    for place in range(many - 1, -1, -1):
        row.append(best_from(many, place, row[-1], fewer[place + 1]))
    return tuple(row[::-1])


def best_from(many, place, waiting, fewer):
    """The greatest share from place on, of those from the next one on, with as many hands and with one fewer."""
    return from_place(place, waiting, greater(waiting, by_laying(many, place, fewer)))


def from_place(place, waiting, seen):
    """The share from place on, of that where a new highest is seen there, and of that where none is, waiting."""
    # Of the things up to this one each is as likely to be their greatest.
    return times(plus(times((place, 1), waiting), seen), (1, place + 1))


def by_laying(many, place, fewer):
    """The share of winning by a hand laid on a new highest at place, fewer being that of the hands left then."""
    # The greatest of the things so far is that of all in so large a share of the orders.
    return plus(share_of(place + 1, many), fewer)


def best_share(many, hands):
    """The share in which the best way to play wins."""
    return table(many, hands)[hands][0]


def rule(many, hands):
    """For each number of hands left, from 1 on, the places at which laying one on a new highest is no worse."""
    rows = table(many, hands)
    return tuple([places_laid(many, row, fewer) for fewer, row in zip(rows, rows[1:])])


def places_laid(many, row, fewer):
    """These places, row being that of the hands left and fewer that of one hand fewer."""
    return tuple([
        place for place in range(many)
        if not is_less(by_laying(many, place, fewer[place + 1]), row[place + 1])
    ])
