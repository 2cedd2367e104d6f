"""How the row of a kind's counts, of so many things, comes of the row of one thing fewer."""

# The row of none: the one order of none has the count 0 of each kind.
FIRST_ROW = (1,)


def number_at(row, place):
    """What row has at place, 0 where it has no such place."""
    return row[place] if 0 <= place < len(row) else 0


def rounds_row(many, ahead):
    """The row of rounds, and of highs."""
    return tuple([
        number_at(ahead, k - 1) + (many - 1) * number_at(ahead, k)
        for k in range(many + 1)
    ])


def stays_row(many, ahead):
    """The row of stays."""
    return tuple([
        number_at(ahead, k - 1) + (many - 1 - k) * number_at(ahead, k) + (k + 1) * number_at(ahead, k + 1)
        for k in range(many + 1)
    ])


def rises_row(many, ahead):
    """The row of rises."""
    return tuple([
        (k + 1) * number_at(ahead, k) + (many - k) * number_at(ahead, k - 1)
        for k in range(many)
    ])


def crossed_row(many, ahead):
    """The row of crossed."""
    return tuple([
        sum(ahead[max(0, k - many + 1):k + 1])
        for k in range(many * (many - 1) // 2 + 1)
    ])


ROWS = {
    "rounds": rounds_row,
    "stays": stays_row,
    "rises": rises_row,
    "highs": rounds_row,
    "crossed": crossed_row,
}


def next_row(kind, many, ahead):
    """The row of kind, of so many things from 1 on, ahead being that of one thing fewer."""
    row = ROWS[kind]
    return row(many, ahead)
