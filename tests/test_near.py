import unittest
from functools import lru_cache
from math import gcd, isqrt

from formcycle.chains import fraction
from formcycle.errors import NoRoot, TooGreat
from formcycle.near import nearest
from tests.refusals import Refusals
from tests.samples import is_no_square, is_tuple_of_wholes

NUMBERS = [number for number in range(2, 1001) if is_no_square(number)]
SOME_NUMBERS = NUMBERS[:30] + [61, 109, 331, 421, 919, 991] + NUMBERS[-9:]
# So many figures behind the root's whole part that the distances of no two fractions here are alike in all of them.
MANY = 10 ** 300


@lru_cache(maxsize=None)
def long_root(number):
    return isqrt(number * MANY * MANY)


def distance(number, top, bottom):
    """The distance to the root, MANY times greater than it is, as a whole number."""
    return abs(top * MANY // bottom - long_root(number))


def by_going_through(number, most):
    found = []
    for bottom in range(1, most + 1):
        below = isqrt(number * bottom * bottom)
        found += [(below, bottom), (below + 1, bottom)]
    return min(found, key=lambda one: (distance(number, *one), one[1]))


def by_halving(number, most):
    """From the whole numbers on both sides of the root on: what lies between two, with both tops and bottoms together.

    Whatever else lies between the two has a greater bottom, so the nearest is one of the last two within the bound.
    """
    low, high = (isqrt(number), 1), (isqrt(number) + 1, 1)
    while low[1] + high[1] <= most:
        between = (low[0] + high[0], low[1] + high[1])
        if between[0] ** 2 < number * between[1] ** 2:
            low = between
        else:
            high = between
    return min((low, high), key=lambda one: distance(number, *one))


class Nearest(unittest.TestCase):
    def assert_nearest(self, number, most, expected):
        told = nearest(number, most)
        self.assertTrue(is_tuple_of_wholes(told, 2))
        self.assertEqual(told, expected, (number, most))
        self.assertEqual(gcd(*told), 1)
        self.assertTrue(1 <= told[1] <= most)

    def test_by_hand(self):
        self.assert_nearest(2, 1, (1, 1))
        self.assert_nearest(3, 1, (2, 1))
        self.assert_nearest(2, 2, (3, 2))
        self.assert_nearest(2, 3, (4, 3))
        self.assert_nearest(2, 4, (4, 3))
        self.assert_nearest(2, 5, (7, 5))
        self.assert_nearest(7, 13, (29, 11))
        self.assert_nearest(7, 14, (37, 14))
        self.assert_nearest(1000, 1, (32, 1))
        self.assert_nearest(999, 10, (158, 5))

    def test_small_bounds_by_going_through_all_bottoms(self):
        for number in SOME_NUMBERS:
            for most in list(range(1, 41)) + [97, 250]:
                self.assert_nearest(number, most, by_going_through(number, most))

    def test_every_number(self):
        for number in NUMBERS:
            for most in (1, 2, 3, 7, 12):
                self.assert_nearest(number, most, by_going_through(number, most))
            for most in (61, 62, 63, 1000, 10 ** 60):
                self.assert_nearest(number, most, by_halving(number, most))

    def test_both_ways_of_the_tests_tell_the_same(self):
        for number in SOME_NUMBERS:
            for most in range(1, 41):
                self.assertEqual(by_halving(number, most), by_going_through(number, most))

    def test_a_bound_of_one(self):
        for number in NUMBERS:
            f = isqrt(number)
            self.assert_nearest(number, 1, (f, 1) if number <= f * f + f else (f + 1, 1))

    def test_great_bounds(self):
        for number in SOME_NUMBERS:
            for most in (10 ** 9, 7 ** 40, 10 ** 59 + 1, 10 ** 60 - 1, 10 ** 60, 2 * 10 ** 60):
                self.assert_nearest(number, most, by_halving(number, most))

    def test_bounds_beside_bottoms_of_fractions(self):
        for number in SOME_NUMBERS:
            for k in list(range(1, 30)) + [40, 50, 60]:
                top, bottom = fraction(number, k)
                if bottom <= 10 ** 60:
                    self.assert_nearest(number, bottom, (top, bottom))
                    self.assert_nearest(number, bottom + 1, by_halving(number, bottom + 1))
                    if bottom > 1:
                        self.assert_nearest(number, bottom - 1, by_halving(number, bottom - 1))

    def test_bounds_between_bottoms_of_fractions(self):
        for number in SOME_NUMBERS:
            for k in range(1, 25):
                ahead, last = fraction(number, k - 1)[1], fraction(number, k)[1]
                for often in range(1, 66, 3):
                    for most in (ahead + often * last - 1, ahead + often * last, often * last):
                        self.assert_nearest(number, most, by_halving(number, most))


class Refused(Refusals, unittest.TestCase):
    bounds = (1, 2, 1000, 1001, 10 ** 60)

    def test_no_root(self):
        for number in (0, 1, -1, -2, -1001, 4, 9, 961, 1024, 10 ** 1998, -10 ** 1999):
            for most in self.bounds:
                self.assert_refused(NoRoot, {"number": number}, nearest, number, most)

    def test_too_great(self):
        for number in (1001, 1002, 1025, 10 ** 1999):
            for most in self.bounds:
                self.assert_refused(TooGreat, {"number": number, "most": 1000}, nearest, number, most)

    def test_a_refused_call_changes_nothing(self):
        ahead = nearest(7, 13)
        self.assert_refused(NoRoot, {"number": 9}, nearest, 9, 13)
        self.assertEqual(nearest(7, 13), ahead)


if __name__ == "__main__":
    unittest.main()
