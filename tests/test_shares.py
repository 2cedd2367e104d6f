import unittest

from shuffletold.shares import greater, is_less, is_share, less, lesser, parted, plus, share_of, times
from tests.helper import as_fraction, is_told_share, wrong_things

NUMBERS = tuple(range(-13, 14)) + (60, -60, 10 ** 30, -10 ** 30, 2 ** 64 * 3 ** 5, -6 ** 40)
UNDERS = tuple(range(1, 14)) + (60, 10 ** 30, 6 ** 41)


class ShareOf(unittest.TestCase):
    def test_plain_ones(self):
        self.assertEqual(share_of(1, 2), (1, 2))
        self.assertEqual(share_of(6, 4), (3, 2))
        self.assertEqual(share_of(4, 2), (2, 1))
        self.assertEqual(share_of(-6, 4), (-3, 2))
        self.assertEqual(share_of(-4, 4), (-1, 1))

    def test_nothing_is_none_over_one(self):
        for under in UNDERS:
            self.assertEqual(share_of(0, under), (0, 1))

    def test_all_is_one_over_one(self):
        for under in UNDERS:
            self.assertEqual(share_of(under, under), (1, 1))

    def test_lowest_terms_of_the_same_worth(self):
        for over in NUMBERS:
            for under in UNDERS:
                found = share_of(over, under)
                self.assertTrue(is_told_share(found), (over, under, found))
                self.assertEqual(found[0] * under, over * found[1])


class PlusLessTimesAndParted(unittest.TestCase):
    def test_plain_ones(self):
        self.assertEqual(plus((1, 2), (1, 3)), (5, 6))
        self.assertEqual(plus((1, 2), (1, 2)), (1, 1))
        self.assertEqual(plus((1, 2), (-1, 2)), (0, 1))
        self.assertEqual(less((1, 2), (1, 3)), (1, 6))
        self.assertEqual(less((1, 3), (1, 2)), (-1, 6))
        self.assertEqual(less((5, 6), (5, 6)), (0, 1))
        self.assertEqual(less((1, 2), (-1, 2)), (1, 1))
        self.assertEqual(times((2, 3), (3, 4)), (1, 2))
        self.assertEqual(times((-2, 3), (3, 2)), (-1, 1))
        self.assertEqual(times((0, 1), (3, 2)), (0, 1))
        self.assertEqual(parted((2, 3), (4, 3)), (1, 2))
        self.assertEqual(parted((-2, 3), (2, 1)), (-1, 3))
        self.assertEqual(parted((0, 1), (3, 2)), (0, 1))

    def test_every_two_of_some(self):
        shares = [share_of(over, under) for over in NUMBERS[::3] for under in UNDERS[::3]]
        for one in shares:
            for other in shares:
                for found, wanted in (
                    (plus(one, other), as_fraction(one) + as_fraction(other)),
                    (less(one, other), as_fraction(one) - as_fraction(other)),
                    (times(one, other), as_fraction(one) * as_fraction(other)),
                ):
                    self.assertTrue(is_told_share(found), (one, other, found))
                    self.assertEqual(as_fraction(found), wanted)
                if other[0] > 0:
                    found = parted(one, other)
                    self.assertTrue(is_told_share(found), (one, other, found))
                    self.assertEqual(as_fraction(found), as_fraction(one) / as_fraction(other))


class IsShare(unittest.TestCase):
    def test_plain_ones(self):
        for thing in ((0, 1), (1, 1), (1, 2), (-1, 2), (3, 2), (-7, 12), (10 ** 2000 + 1, 10 ** 2000)):
            self.assertIs(is_share(thing), True)
        for thing in (
            (0, 0), (0, 2), (2, 2), (2, 4), (-2, 4), (1, 0), (1, -1), (-1, -2), (0, -1), (True, 1), (1, True),
            (False, 1), (0, 1, 1), (1,), (), [1, 2], ("1", "2"), (1, "2"), (None, 1), (1, None), ((1, 2),),
            ((1,), (2,)), "1/2", 1, None,
        ):
            self.assertIs(is_share(thing), False, thing)

    def test_every_two_of_some(self):
        for over in NUMBERS:
            for under in NUMBERS:
                self.assertIs(is_share((over, under)), is_told_share((over, under)), (over, under))

    def test_things_of_every_kind(self):
        for thing in wrong_things():
            self.assertIs(is_share(thing), is_told_share(thing), thing)


class Compared(unittest.TestCase):
    def test_every_two_of_some(self):
        shares = [share_of(over, under) for over in NUMBERS[::3] for under in UNDERS[::3]]
        for one in shares:
            for other in shares:
                self.assertIs(is_less(one, other), as_fraction(one) < as_fraction(other), (one, other))
                self.assertEqual([lesser(one, other), greater(one, other)], sorted([one, other], key=as_fraction))


if __name__ == "__main__":
    unittest.main()
