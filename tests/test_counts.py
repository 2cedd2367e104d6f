import unittest
from itertools import combinations

from shuffletold.counts import count
from tests.helper import KINDS, long_orders, orders_of, orders_to


def rounds_by_words(order):
    """How many rounds: the numbers that are the least of all that they lead to."""
    least = 0
    for number in range(len(order)):
        led = {number}
        at = order[number]
        while at not in led:
            led.add(at)
            at = order[at]
        least += number == min(led)
    return least


def longest_by_choice(order):
    """The most places, of all choices of places, whose numbers rise."""
    for size in range(len(order), 0, -1):
        for places in combinations(range(len(order)), size):
            numbers = [order[place] for place in places]
            if numbers == sorted(numbers):
                return size
    return 0


def longest_by_ends(order):
    """The same for long orders: the most places of a rising row that ends at each place."""
    ending = []
    for place, number in enumerate(order):
        ending.append(1 + max([ending[at] for at in range(place) if order[at] < number], default=0))
    return max(ending, default=0)


def counts_by_words(order):
    """The counts of all kinds but longest, as the document's words tell them."""
    places = range(len(order))
    return {
        "rounds": rounds_by_words(order),
        "stays": len([k for k in places if order[k] == k]),
        "rises": len([k for k in places if k + 1 < len(order) and order[k] < order[k + 1]]),
        "highs": len([k for k in places if all(order[k] > order[j] for j in range(k))]),
        "crossed": len([(k, j) for k, j in combinations(places, 2) if order[k] > order[j]]),
    }


class Count(unittest.TestCase):
    def test_a_plain_one(self):
        order = (3, 1, 2, 0, 5, 4)
        told = {kind: count(kind, order) for kind in KINDS}
        self.assertEqual(told, {"rounds": 4, "stays": 2, "rises": 2, "highs": 2, "crossed": 6, "longest": 3})

    def test_another_one(self):
        order = (1, 2, 0, 4, 3)
        told = {kind: count(kind, order) for kind in KINDS}
        self.assertEqual(told, {"rounds": 2, "stays": 0, "rises": 2, "highs": 3, "crossed": 3, "longest": 3})

    def test_of_none_and_of_one(self):
        for kind in KINDS:
            self.assertEqual(count(kind, ()), 0)
        told = [count(kind, (0,)) for kind in KINDS]
        self.assertEqual(told, [1, 1, 0, 1, 0, 1])

    def test_of_two(self):
        self.assertEqual([count(kind, (0, 1)) for kind in KINDS], [2, 2, 1, 2, 0, 2])
        self.assertEqual([count(kind, (1, 0)) for kind in KINDS], [1, 0, 0, 1, 1, 1])

    def test_rising_and_falling_of_sixty_and_more(self):
        for many in (60, 61, 66):
            rising = tuple(range(many))
            self.assertEqual([count(kind, rising) for kind in KINDS], [many, many, many - 1, many, 0, many])
            falling = rising[::-1]
            stays = many % 2
            rounds = (many + stays) // 2
            crossed = many * (many - 1) // 2
            self.assertEqual([count(kind, falling) for kind in KINDS], [rounds, stays, 0, 1, crossed, 1])

    def test_every_small_order_by_the_words(self):
        for order in orders_to(6):
            for kind, told in counts_by_words(order).items():
                self.assertEqual(count(kind, order), told, (kind, order))
            self.assertEqual(count("longest", order), longest_by_choice(order), order)

    def test_every_order_of_seven_longest(self):
        for order in orders_of(7):
            self.assertEqual(count("longest", order), longest_by_ends(order), order)

    def test_long_orders_by_the_words(self):
        for order in long_orders():
            for kind, told in counts_by_words(order).items():
                self.assertEqual(count(kind, order), told, (kind, order))
            self.assertEqual(count("longest", order), longest_by_ends(order), order)

    def test_how_many_of_five_have_each_count(self):
        known = {
            "rounds": [0, 24, 50, 35, 10, 1],
            "stays": [44, 45, 20, 10, 0, 1],
            "rises": [1, 26, 66, 26, 1],
            "highs": [0, 24, 50, 35, 10, 1],
            "crossed": [1, 4, 9, 15, 20, 22, 20, 15, 9, 4, 1],
            "longest": [0, 1, 41, 61, 16, 1],
        }
        for kind, row in known.items():
            found = [count(kind, order) for order in orders_of(5)]
            self.assertEqual([found.count(number) for number in range(len(row))], row, kind)
            self.assertEqual(len(found), sum(row))

    def test_a_whole_number_that_is_no_truth_is_told(self):
        for kind in KINDS:
            for order in orders_to(4):
                self.assertIs(type(count(kind, order)), int)

    def test_nothing_is_changed_and_the_same_is_told_again(self):
        for kind in KINDS:
            for order in orders_to(5):
                kept = tuple(list(order))
                first = count(kind, order)
                self.assertEqual(order, kept)
                self.assertEqual(count(kind, order), first)


if __name__ == "__main__":
    unittest.main()
