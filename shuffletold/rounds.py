"""The rounds of an order, and orders written by their rounds."""


def rounds_of(order):
    """The rising tuple of the rounds of order, each from its least number on."""
    # Firsts that rise meet each round at its least number, and the rounds rising.
    return tuple(rounds_met(order, list(range(len(order)))))


def written(order):
    """The rounds of order, each from its greatest number on, by these rising, as one order."""
    # Firsts that fall meet each round at its greatest number, and the greatest round first.
    falling = rounds_met(order, list(range(len(order) - 1, -1, -1)))
    return tuple([number for found in falling[::-1] for number in found])


def unwritten(order):
    """The order of which order is written."""
    return joined(cut_at_highs(order), len(order))


def joined(rounds, many):
    """The order of so many things that has these rounds, which have each number below many once."""
    numbers = [0] * many
    for found in rounds:
        for at, number in enumerate(found):
            # At 0 the one ahead is found[-1]: the first stands at the last.
            numbers[found[at - 1]] = number
    return tuple(numbers)


def rounds_met(order, firsts):
    """The list of the rounds of order, as firsts meet them, each from the number that met it."""
    rounds = []
    met = [False] * len(order)
    for first in firsts:
        if not met[first]:
            found = round_from(order, first)
            for number in found:
                met[number] = True
            rounds.append(found)
    return rounds


def round_from(order, first):
    """The round of order that has first, from first on."""
    numbers = [first]
    number = order[first]
    while number != first:
        numbers.append(number)
        number = order[number]
    return tuple(numbers)


def cut_at_highs(order):
    """The list of the rows into which order falls, each begun by a number above all ahead."""
    rows = []
    for number in order:
        # The first of the last row is the greatest number so far.
        if not rows or number > rows[-1][0]:
            rows.append([number])
        else:
            rows[-1].append(number)
    return rows
