"""Papers that show a bound, and whether a paper, by whomever it was made, shows one."""

from shuffletold.bounds import most_share, sets_of
from shuffletold.means import mean, spread
from shuffletold.shares import is_less, less, parted, times
from shuffletold.wholes import are_just, is_whole, product

# The paper of a bound of 1 or more, which holds of whatever there is.
ALL = ("all",)


def stays_paper(many, number):
    """The paper of stays."""
    # Of the orders that stay at some places each has the others as it likes.
    sets = sets_of(many, number)
    return ("sets", sets, (1, product(many - number + 1, many)) if sets > 0 else (0, 1))


def longest_paper(many, number):
    """The paper of longest."""
    sets = sets_of(many, number)
    return ("sets", sets, (1, product(1, number)) if sets > 0 else (0, 1))


def groups_paper(many, number):
    """The paper of rounds and of highs."""
    return ("groups", many.bit_length())


def rises_paper(many, number):
    """The paper of rises."""
    return ("spread", mean("rises", many), spread("rises", many))


def crossed_paper(many, number):
    """The paper of crossed."""
    return ("spread", mean("crossed", many), spread("crossed", many))


PAPERS = {
    "rounds": groups_paper,
    "stays": stays_paper,
    "rises": rises_paper,
    "highs": groups_paper,
    "crossed": crossed_paper,
    "longest": longest_paper,
}


def own_paper(kind, many, number):
    """The paper of kind, whatever bound it shows, if any."""
    paper = PAPERS[kind]
    return paper(many, number)


def shows_by_sets(paper, number, bound, thing):
    """Whether thing, of the length and the word of paper, shows bound by sets of places."""
    if not are_just(thing[1:2], paper[1:2]) or not are_just(thing[2], paper[2]):
        return False
    return not is_less(bound, times((paper[1], 1), paper[2]))


def shows_by_groups(paper, number, bound, thing):
    """Whether thing, of the length and the word of paper, shows bound by groups of places."""
    if not is_whole(thing[1]) or thing[1] < paper[1]:
        return False
    most = bound[0] * product(1, number) // bound[1]
    power = 1
    for time in range(number):
        power = power * thing[1]
        # Later powers are no less, so figures beyond all measure are left here.
        if power > most:
            return False
    return True


def shows_by_spread(paper, number, bound, thing):
    """Whether thing, of the length and the word of paper, shows bound by mean and spread."""
    if not are_just(thing[1], paper[1]) or not are_just(thing[2], paper[2]):
        return False
    beyond = less((number, 1), paper[1])
    return is_less((0, 1), beyond) and not is_less(bound, parted(paper[2], times(beyond, beyond)))


LOOKS = {
    "sets": shows_by_sets,
    "groups": shows_by_groups,
    "spread": shows_by_spread,
}


def shows_bound(kind, many, number, bound, thing):
    """Whether thing, which may be anything, shows that the share of number or more is never above bound."""
    if not isinstance(thing, tuple) or not thing:
        return False
    if thing == ALL:
        return not is_less(bound, (1, 1))
    if number == 0:
        return False
    paper = own_paper(kind, many, number)
    if thing[0] != paper[0] or len(thing) != len(paper):
        return False
    look = LOOKS[paper[0]]
    return look(paper, number, bound, thing)


def bound_paper(kind, many, number):
    """A paper that shows the bound that most_share tells."""
    paper = own_paper(kind, many, number)
    # Where number is 0, or a kind's own way shows no bound or one above 1, what is told is 1.
    return paper if shows_bound(kind, many, number, most_share(kind, many, number), paper) else ALL
