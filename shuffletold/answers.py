"""Answers to rows of text, each of which asks one thing."""

from shuffletold.among import nth, place_among
from shuffletold.coins import die
from shuffletold.counts import count
from shuffletold.errors import NoRow, NoText
from shuffletold.joint import KINDS
from shuffletold.means import mean, spread
from shuffletold.stopping import best_share
from shuffletold.texts import MOST_THINGS, is_number, read_numbers, read_order, show_order, show_rounds, show_share
from shuffletold.throws import is_throws, order_of, swapped, swaps_of, throws_of
from shuffletold.told import told

BUT_LONGEST = ("rounds", "stays", "rises", "highs", "crossed")
MOST_COINS = 600
MOST_FIGURES = 30

# A form answers what stands behind a row's first word; what isn't of it, or beyond its bounds, it refuses with NoText.


def kind_and_rest(text, kinds):
    """The kind, one of kinds, that text begins with, and what stands behind it."""
    kind, blank, rest = text.partition(" ")
    if kind not in kinds:
        raise NoText()
    return (kind, rest)


def words_of(text, many):
    """The list of the words of text, which are just so many."""
    words = text.split(" ")
    if len(words) != many:
        raise NoText()
    return words


def number_in(word, least, most):
    """The number that word writes, which is from least to most."""
    if not is_number(word) or len(word) > MOST_FIGURES:
        raise NoText()
    number = int(word)
    if number < least or number > most:
        raise NoText()
    return number


def read_throws(text):
    """The throws that text writes."""
    throws = read_numbers(text)
    if len(throws) > MOST_THINGS or not is_throws(throws):
        raise NoText()
    return throws


def read_coins(text):
    """The coins that text writes."""
    coins = read_numbers(text)
    if len(coins) > MOST_COINS or max(coins, default=0) > 1:
        raise NoText()
    return coins


def count_form(rest):
    """KIND X ..: the count of the order."""
    kind, text = kind_and_rest(rest, KINDS)
    return str(count(kind, read_order(text)))


def among_form(rest):
    """KIND X ..: the place of the order among those of its count."""
    kind, text = kind_and_rest(rest, BUT_LONGEST)
    order = read_order(text)
    if len(order) > (12 if kind == "crossed" else 24):
        raise NoText()
    return str(place_among(kind, order))


def rounds_form(rest):
    """X ..: the rounds of the order."""
    return show_rounds(read_order(rest))


def throws_form(rest):
    """X ..: the throws of which it is the order."""
    return show_order(throws_of(read_order(rest)))


def swaps_form(rest):
    """X ..: the throws of which the order is made by exchanges."""
    return show_order(swaps_of(read_order(rest)))


def order_form(rest):
    """T ..: the order of the throws."""
    return show_order(order_of(read_throws(rest)))


def swapped_form(rest):
    """T ..: the order that the throws make by exchanges."""
    return show_order(swapped(read_throws(rest)))


def told_form(rest):
    """KIND N: how many orders have each count."""
    kind, text = kind_and_rest(rest, KINDS)
    most = 8 if kind in ("crossed", "longest") else 20
    return " ".join([str(number) for number in told(kind, number_in(text, 0, most))])


def mean_form(rest):
    """KIND N: the mean."""
    kind, text = kind_and_rest(rest, BUT_LONGEST)
    return show_share(mean(kind, number_in(text, 0, 60)))


def spread_form(rest):
    """KIND N: the spread."""
    kind, text = kind_and_rest(rest, BUT_LONGEST)
    return show_share(spread(kind, number_in(text, 0, 60)))


def nth_form(rest):
    """KIND N K A: of the orders of N things that have the count K that with A ahead of it."""
    kind, text = kind_and_rest(rest, BUT_LONGEST)
    many, number, at = words_of(text, 3)
    order = nth(kind, number_in(many, 0, 10), number_in(number, 0, 10 ** 30), number_in(at, 0, 10 ** 30))
    return "none" if order is None else show_order(order)


def best_form(rest):
    """N H: the best share of N things and H hands."""
    many, hands = words_of(rest, 2)
    return show_share(best_share(number_in(many, 1, 40), number_in(hands, 0, 4)))


def die_form(rest):
    """S C ..: the side that the coins come to, and how many of them were taken."""
    sides, blank, text = rest.partition(" ")
    thrown = die(number_in(sides, 1, 10 ** 30), read_coins(text))
    return "none" if thrown is None else f"{thrown[0]} {thrown[1]}"


FORMS = {
    "count": count_form,
    "among": among_form,
    "rounds": rounds_form,
    "throws": throws_form,
    "swaps": swaps_form,
    "order": order_form,
    "swapped": swapped_form,
    "told": told_form,
    "mean": mean_form,
    "spread": spread_form,
    "nth": nth_form,
    "best": best_form,
    "die": die_form,
}


def answer(row):
    """The answer to one row."""
    word, blank, rest = row.partition(" ")
    if word not in FORMS:
        raise NoText()
    form = FORMS[word]
    return form(rest)


def answers(text):
    """The tuple of the answers to the rows of text, which may be anything."""
    if not isinstance(text, str):
        raise NoRow(0)
    found = []
    for at, row in enumerate(text.split("\n")):
        try:
            found.append(answer(row))
        except NoText:
            raise NoRow(at) from None
    return tuple(found)
