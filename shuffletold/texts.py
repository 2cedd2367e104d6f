"""Orders, rounds and shares as texts, and read back."""

from shuffletold.errors import NoText
from shuffletold.orders import is_order
from shuffletold.rounds import joined, rounds_of
from shuffletold.shares import is_share

# An order of more things is not read.
MOST_THINGS = 60
# Python itself refuses to write, and to read, a number of some thousands of figures: it is done by pieces.
PIECE = 60


def show_order(order):
    """The text of order, or of throws."""
    return " ".join([str(number) for number in order]) if order else "-"


def show_rounds(order):
    """The text of the rounds of order."""
    return "".join([f"({show_order(found)})" for found in rounds_of(order)]) if order else "-"


def show_share(share):
    """The text of share."""
    over, under = share
    sign = "-" if over < 0 else ""
    return f"{sign}{show_number(abs(over))}/{show_number(under)}"


def show_number(number):
    """The text of a number from 0 on, of however many figures."""
    pieces = []
    left = number
    while left >= 10 ** 60:
        left, piece = divmod(left, 10 ** 60)
        pieces.append(str(piece).zfill(PIECE))
    pieces.append(str(left))
    return "".join(pieces[::-1])


def read_order(text):
    """The order that text, which may be anything, writes."""
    return order_read(read_numbers(text))


def read_rounds(text):
    """The order whose rounds text, which may be anything, writes."""
    if not isinstance(text, str):
        raise NoText()
    if text == "-":
        return ()
    rounds = [read_numbers(part) for part in text[1:-1].split(")(")]
    many = len(order_read(tuple([number for found in rounds for number in found])))
    order = joined(rounds, many)
    # The brackets, and whether each round is as it is told, show by writing it again.
    if show_rounds(order) != text:
        raise NoText()
    return order


def read_share(text):
    """The share that text, which may be anything, writes."""
    if not isinstance(text, str):
        raise NoText()
    over, slash, under = text.partition("/")
    figures = over.removeprefix("-")
    if over == "-0" or not is_number(figures) or not is_number(under):
        raise NoText()
    sign = -1 if over.startswith("-") else 1
    share = (sign * read_number(figures), read_number(under))
    if not is_share(share):
        raise NoText()
    return share


def read_numbers(text):
    """The tuple of numbers, of at most two figures each, that text, which may be anything, writes."""
    if not isinstance(text, str):
        raise NoText()
    if text == "-":
        return ()
    words = text.split(" ")
    # What is read so, things and coins, has no number of more figures.
    if not all([len(word) <= 2 and is_number(word) for word in words]):
        raise NoText()
    return tuple([int(word) for word in words])


def order_read(numbers):
    """These numbers, a tuple, where they are an order that is not too long."""
    if len(numbers) > MOST_THINGS or not is_order(numbers):
        raise NoText()
    return numbers


def is_number(word):
    """Whether word, a text, is a number from 0 on as it is written."""
    # Figures of other scripts are figures to Python, too.
    return word.isascii() and word.isdigit() and (word == "0" or not word.startswith("0"))


def read_number(word):
    """The number that word, a text of figures, writes, of however many."""
    number = 0
    filled = "0" * (-len(word) % PIECE) + word
    for begin in range(0, len(filled), PIECE):
        number = number * 10 ** 60 + int(filled[begin:begin + PIECE])
    return number
