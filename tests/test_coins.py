import unittest
from collections import Counter
from itertools import product
from math import factorial
from random import Random

from shuffletold.coins import coin_throws, coins_for, die, die_ways
from tests.helper import drawn_throws, is_told, is_told_order, throws_of_all

MOST = 10 ** 30
POWERS = tuple(2 ** power for power in (1, 2, 3, 10, 31, 32, 63, 64, 65, 99))
GREAT = tuple(sorted({near for power in POWERS for near in (power - 1, power, power + 1)} | {MOST - 1, MOST, MOST + 1}))


def rows_of(many):
    """All rows of so many coins."""
    return list(product((0, 1), repeat=many))


def rows_to(many):
    """All rows of at most so many coins."""
    return [coins for size in range(many + 1) for coins in rows_of(size)]


def drawn_coins(seed, many):
    """So many coins, the same at each run."""
    draw = Random(seed)
    return tuple(draw.randrange(2) for _ in range(many))


def die_by_words(sides, coins):
    """The document's own words, coin by coin."""
    v, w = 0, 1
    left = list(coins)
    while w < sides:
        if not left:
            return None
        v, w = 2 * v + left.pop(0), 2 * w
        if w >= sides and v >= sides:
            v, w = v - sides, w - sides
    return v, len(coins) - len(left)


def throws_by_words(many, coins):
    """The throws and how many coins were taken, by the document's own words."""
    throws, left = [], list(coins)
    for place in range(many):
        thrown = die_by_words(place + 1, left)
        if thrown is None:
            return None
        throws.append(thrown[0])
        left = left[thrown[1]:]
    return tuple(throws), len(coins) - len(left)


class Die(unittest.TestCase):
    def test_plain_ones(self):
        self.assertEqual(die(2, (1,)), (1, 1))
        self.assertEqual(die(3, (0, 1)), (1, 2))
        self.assertEqual(die(3, (1, 1, 0, 1)), (1, 4))
        self.assertEqual(die(6, (1, 0, 1)), (5, 3))
        # Six of eight are sides; what is left over, two of two, goes on.
        self.assertEqual(die(6, (1, 1, 1, 0, 1)), (5, 5))
        self.assertEqual(die(6, (1, 1, 1, 1, 1)), None)
        self.assertEqual(die(6, (1, 1, 0, 0, 1)), (1, 5))
        self.assertEqual(die(6, (1, 1, 1, 0, 0)), (4, 5))

    def test_of_one_side_none_is_taken(self):
        for coins in rows_to(4) + [(1,) * 600]:
            self.assertEqual(die(1, coins), (0, 0))

    def test_none_where_they_run_out(self):
        for sides in (2, 3, 5, 60) + GREAT:
            if sides > 1:
                least = (sides - 1).bit_length()
                for many in range(least):
                    self.assertIsNone(die(sides, (0,) * many), (sides, many))
                    self.assertIsNone(die(sides, (1,) * many), (sides, many))
                self.assertEqual(die(sides, (0,) * least), (0, least))

    def check(self, sides, coins):
        found = die(sides, coins)
        self.assertEqual(found, die_by_words(sides, coins), (sides, coins))
        if found is not None:
            side, taken = found
            self.assertTrue(is_told_order(found))
            self.assertTrue(0 <= side < sides and 0 <= taken <= len(coins))
            # Coins behind those that are taken have no say; without the last one they run out.
            self.assertEqual(die(sides, coins[:taken]), found)
            self.assertEqual(die(sides, coins + (1, 0, 1)), found)
            if taken > 0:
                self.assertIsNone(die(sides, coins[:taken - 1]))

    def test_small_sides_and_all_rows_of_up_to_ten_coins(self):
        for sides in range(1, 21):
            for coins in rows_to(10):
                self.check(sides, coins)

    def test_about_powers_of_two_to_the_bound_and_beyond(self):
        for sides in GREAT + (7 * 10 ** 20, MOST // 3, 2 ** 100 - 1, 2 ** 100, 3 * MOST):
            for seed in range(20):
                self.check(sides, drawn_coins(seed, 600))
            for coins in ((0,) * 600, (1,) * 600, (1, 0) * 300, (0, 1) * 300, (1,) * 700):
                self.check(sides, coins)

    def test_at_the_last_side_and_just_beyond_it(self):
        for sides in GREAT:
            figures = (sides - 1).bit_length()
            last = tuple(int(figure) for figure in bin(sides - 1)[2:]) if sides > 1 else ()
            self.assertEqual(die(sides, last), (sides - 1, figures), sides)
            if 2 ** figures > sides:
                beyond = tuple(int(figure) for figure in bin(sides)[2:])
                self.check(sides, beyond + (0,) * 300)
                self.check(sides, beyond + (1,) * 300)


class DieWays(unittest.TestCase):
    def test_plain_ones(self):
        self.assertEqual(die_ways(1, 0), (1, 0))
        self.assertEqual(die_ways(1, 5), (32, 0))
        self.assertEqual(die_ways(2, 0), (0, 1))
        self.assertEqual(die_ways(2, 1), (1, 0))
        self.assertEqual(die_ways(3, 1), (0, 2))
        self.assertEqual(die_ways(3, 2), (1, 1))
        self.assertEqual(die_ways(6, 4), (2, 4))

    def test_all_rows_gone_through(self):
        for sides in range(1, 21):
            for many in range(11):
                thrown = [die(sides, row) for row in rows_of(many)]
                found = Counter(None if told is None else told[0] for told in thrown)
                each, left = die_ways(sides, many)
                self.assertEqual([found[side] for side in range(sides)], [each] * sides, (sides, many))
                self.assertEqual(found[None], left)

    def test_great_ones_come_to_all_rows(self):
        for sides in (1, 2, 3, 60) + GREAT + (2 ** 100, 3 * MOST):
            for many in (0, 1, 2, 50, 99, 100, 101, 599, 600, 601, 640):
                found = die_ways(sides, many)
                self.assertTrue(is_told_order(found))
                each, left = found
                self.assertEqual(sides * each + left, 2 ** many, (sides, many))
                # Fewer rows are left than there are sides: else each side could have had one more.
                self.assertTrue(0 <= left < sides and each >= 0)
                self.assertEqual(die_ways(sides, many), found)


class CoinThrows(unittest.TestCase):
    def test_plain_ones(self):
        self.assertEqual(coin_throws(0, ()), ((), 0))
        self.assertEqual(coin_throws(0, (1, 1)), ((), 0))
        self.assertEqual(coin_throws(1, ()), ((0,), 0))
        self.assertEqual(coin_throws(1, (1,)), ((0,), 0))
        self.assertEqual(coin_throws(2, ()), None)
        self.assertEqual(coin_throws(2, (1,)), ((0, 1), 1))
        self.assertEqual(coin_throws(3, (1, 1, 0)), ((0, 1, 2), 3))
        self.assertEqual(coin_throws(3, (1, 1, 1)), None)
        self.assertEqual(coin_throws(3, (1, 1, 1, 0, 1, 1)), ((0, 1, 1), 5))

    def check(self, many, coins):
        found = coin_throws(many, coins)
        self.assertEqual(found, throws_by_words(many, coins), (many, coins))
        self.assertTrue(is_told(found))
        if found is not None:
            throws, taken = found
            self.assertEqual(len(throws), many)
            self.assertTrue(all(0 <= throw <= place for place, throw in enumerate(throws)))
            self.assertEqual(coin_throws(many, coins[:taken]), found)
            self.assertEqual(coin_throws(many, coins + (0, 1, 1)), found)
            if taken > 0:
                self.assertIsNone(coin_throws(many, coins[:taken - 1]))

    def test_all_rows_of_up_to_ten_coins(self):
        for many in range(7):
            for coins in rows_to(10):
                self.check(many, coins)

    def test_long_rows(self):
        for many in (0, 1, 2, 20, 59, 60, 61, 66):
            for seed in range(20):
                self.check(many, drawn_coins(seed, 600))
            for coins in ((0,) * 600, (1,) * 600, (1, 0) * 300, drawn_coins(9, 650), drawn_coins(9, 200)):
                self.check(many, coins)

    def test_as_many_rows_come_to_each(self):
        for many in range(5):
            for size in range(12):
                found = Counter(told[0] for told in (coin_throws(many, row) for row in rows_of(size)) if told)
                ways = {found[throws] for throws in throws_of_all(many)}
                self.assertEqual(len(ways), 1, (many, size))
                self.assertEqual(sum(found.values()), ways.pop() * factorial(many))


class CoinsFor(unittest.TestCase):
    def test_plain_ones(self):
        self.assertEqual(coins_for(()), ())
        self.assertEqual(coins_for((0,)), ())
        self.assertEqual(coins_for((0, 1)), (1,))
        self.assertEqual(coins_for((0, 1, 2)), (1, 1, 0))
        self.assertEqual(coins_for((0, 0, 1, 3, 4)), (0, 0, 1, 1, 1, 1, 0, 0))

    def test_the_shortest_of_all_rows_and_the_only_one(self):
        for many in range(6):
            shortest = {}
            for coins in rows_to(10):
                told = coin_throws(many, coins)
                if told is not None:
                    shortest.setdefault(told[0], []).append(coins)
            for throws in throws_of_all(many):
                rows = shortest[throws]
                self.assertEqual(coins_for(throws), rows[0], throws)
                self.assertTrue(all(len(row) > len(rows[0]) for row in rows[1:]), throws)

    def test_long_ones_there_and_back(self):
        least = [(0,) * many for many in (59, 60, 61, 66)]
        greatest = [tuple(range(many)) for many in (59, 60, 61, 66)]
        for throws in least + greatest + drawn_throws(8, tuple(range(6, 61)) + (64, 70)):
            coins = coins_for(throws)
            self.assertTrue(is_told_order(coins) and set(coins) <= {0, 1})
            self.assertEqual(coin_throws(len(throws), coins), (throws, len(coins)))
            self.assertEqual(coin_throws(len(throws), coins + (1, 0)), (throws, len(coins)))
            # No die of k + 1 sides can end by fewer coins than reach so many.
            self.assertEqual(len(coins), sum(min(n for n in range(9) if 2 ** n > k) for k in range(len(throws))))
            self.assertEqual(coins_for(throws), coins)

    def test_coins_that_ended_at_once_come_back(self):
        for seed in range(200):
            throws, taken = coin_throws(12, drawn_coins(seed, 200))
            self.assertLessEqual(len(coins_for(throws)), taken)


class Kept(unittest.TestCase):
    def test_nothing_is_changed_and_the_same_is_told_again(self):
        coins, throws = (1, 1, 0, 1, 0, 0, 1), (0, 1, 0, 2)
        kept = (tuple(list(coins)), tuple(list(throws)))
        first = (die(5, coins), die_ways(5, 7), coin_throws(4, coins), coins_for(throws))
        self.assertEqual((coins, throws), kept)
        self.assertEqual((die(5, coins), die_ways(5, 7), coin_throws(4, coins), coins_for(throws)), first)


if __name__ == "__main__":
    unittest.main()
