"""Dice thrown by coins, and throws of all places so."""


def die(sides, coins):
    """The side that coins come to, and how many of them were taken; None where they run out."""
    side, reach = 0, 1
    taken = 0
    while reach < sides:
        if taken == len(coins):
            return None
        side = 2 * side + coins[taken]
        reach = 2 * reach
        taken += 1
        if side >= sides:
            # What is left over is still as likely each, so it is kept for the next coins.
            side -= sides
            reach -= sides
    return (side, taken)


def die_ways(sides, many):
    """How many of all rows of so many coins come to each one side, and how many to none."""
    each, left = divmod(1, sides)
    for coin in range(many):
        # By either coin a row that came to a side stays there; those left are shared out among the sides anew.
        more, left = divmod(2 * left, sides)
        each = 2 * each + more
    return (each, left)


def coin_throws(many, coins):
    """The throws of so many that coins come to, and how many of them were taken; None where they run out."""
    throws = []
    taken = 0
    for place in range(many):
        thrown = die(place + 1, coins[taken:])
        if thrown is None:
            return None
        throws.append(thrown[0])
        taken += thrown[1]
    return (tuple(throws), taken)


def coins_for(throws):
    """The shortest coins that come to throws."""
    coins = []
    for place, throw in enumerate(throws):
        # As many coins as the greatest side has figures are the fewest that end a die, and end it at each side.
        coins.extend(figures(throw, place.bit_length()))
    return tuple(coins)


def figures(number, many):
    """The list of the last so many binary figures of number, the greatest first."""
    return [(number >> at) & 1 for at in range(many - 1, -1, -1)]
