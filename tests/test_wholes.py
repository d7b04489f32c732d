import math
import unittest

from formcycle.errors import NoRoot
from formcycle.wholes import divisor, is_square, powered, root, shares
from tests.samples import GREAT, is_tuple_of_wholes, is_whole

LONG = 10 ** 1999 + 4567

PAIRS = [(one, other) for one in range(-13, 14) for other in range(-13, 14)] + [
    (60, 84),
    (-60, 84),
    (84, -60),
    (GREAT, GREAT * 12),
    (-GREAT * 12, GREAT),
    (GREAT, 0),
    (0, -GREAT),
    (GREAT * 91, -GREAT * 35),
    (GREAT, GREAT + 1),
    (3 ** 400 * 35, 2 ** 700 * 21),
    (LONG, LONG // 3),
    (-LONG, 3 ** 4000),
]


class Divisor(unittest.TestCase):
    def test_greatest_that_divides_both(self):
        for one, other in PAIRS:
            self.assertEqual(divisor(one, other), math.gcd(one, other), (one, other))

    def test_noughts(self):
        self.assertEqual(divisor(0, 0), 0)
        self.assertEqual(divisor(0, -7), 7)
        self.assertEqual(divisor(-7, 0), 7)

    def test_a_number_and_its_multiple(self):
        for one in (1, -1, 12, -12, GREAT, -GREAT):
            for often in (-5, -1, 1, 2, GREAT):
                self.assertEqual(divisor(one, one * often), abs(one))
                self.assertEqual(divisor(one * often, one), abs(one))

    def test_neighbours_in_the_row_with_the_longest_way_down(self):
        one, other = 1, 1
        while other < 10 ** 1999:
            one, other = other, one + other
        self.assertEqual(divisor(other * 6, -one * 6), 6)
        self.assert_shares(other * 6, -one * 6)

    def test_shares_make_the_divisor(self):
        for one, other in PAIRS:
            self.assert_shares(one, other)

    def assert_shares(self, one, other):
        told = shares(one, other)
        self.assertTrue(is_tuple_of_wholes(told, 3), (one, other))
        self.assertEqual(told[0], math.gcd(one, other), (one, other))
        self.assertEqual(told[1] * one + told[2] * other, told[0], (one, other))


class Root(unittest.TestCase):
    def test_by_hand(self):
        self.assertEqual([root(number) for number in range(17)], [0, 1, 1, 1, 2, 2, 2, 2, 2, 3, 3, 3, 3, 3, 3, 3, 4])

    def test_greatest_whose_square_is_no_greater(self):
        for number in list(range(3000)) + [GREAT, LONG, LONG * 10 - 1, 2 ** 6000, 2 ** 6001 - 1]:
            told = root(number)
            self.assertTrue(is_whole(told))
            self.assertTrue(told * told <= number < (told + 1) * (told + 1), number)

    def test_at_squares_and_beside_them(self):
        for side in list(range(2, 200)) + [GREAT, 10 ** 999, 2 ** 1000, 2 ** 1000 - 1, 2 ** 64, 2 ** 64 + 1]:
            self.assertEqual(root(side * side - 1), side - 1)
            self.assertEqual(root(side * side), side)
            self.assertEqual(root(side * side + 1), side)
            self.assertEqual(root(side * side + 2 * side), side)

    def test_below_nought_is_refused(self):
        for number in (-1, -4, -9, -GREAT * GREAT, -LONG):
            with self.assertRaises(NoRoot) as refusal:
                root(number)
            self.assertEqual(refusal.exception.number, number)


class Squares(unittest.TestCase):
    def test_small(self):
        squares = [side * side for side in range(60)]
        for number in range(-3000, 3000):
            self.assertIs(is_square(number), number in squares, number)

    def test_great_and_beside(self):
        for side in (GREAT, 10 ** 60 + 1, 10 ** 999 + 3, 2 ** 3000, 2 ** 3000 - 1):
            self.assertIs(is_square(side * side), True)
            self.assertIs(is_square(side * side + 1), False)
            self.assertIs(is_square(side * side - 1), False)
            self.assertIs(is_square(side * side + 2 * side), False)

    def test_below_nought_is_none(self):
        for number in (-1, -2, -4, -9, -GREAT * GREAT):
            self.assertIs(is_square(number), False)


class Counted:
    """A "put" that keeps how often it was called."""

    def __init__(self, put):
        self.put = put
        self.calls = 0

    def __call__(self, one, other):
        self.calls += 1
        return self.put(one, other)


def added(one, other):
    return one + other


class Powered(unittest.TestCase):
    def test_sums(self):
        for count in range(200):
            self.assertEqual(powered(7, count, added, 0), 7 * count)

    def test_texts_keep_their_order(self):
        self.assertEqual([powered("ab", count, added, "") for count in range(4)], ["", "ab", "abab", "ababab"])
        for count in range(70):
            self.assertEqual(powered("abc", count, added, ""), "abc" * count)

    def test_what_comes_for_0_and_1(self):
        put = Counted(added)
        self.assertEqual(powered("thing", 0, put, "first"), "first")
        self.assertEqual(put.calls, 0)
        self.assertEqual(powered("thing", 1, put, ""), "thing")
        self.assertLessEqual(put.calls, 2)

    def test_how_often_put_is_called(self):
        for count in list(range(1, 600)) + [2 ** 100, 2 ** 100 - 1, 10 ** 200 + 1, LONG]:
            put = Counted(lambda one, other: one * other % 1000003)
            self.assertEqual(powered(5, count, put, 1), pow(5, count, 1000003), count)
            self.assertLessEqual(put.calls, 2 * (len(bin(count)) - 2), count)

    def test_things_are_not_changed(self):
        thing, first = [1, 2], []
        kept = [powered(thing, count, added, first) for count in range(9)]
        self.assertEqual(kept, [[1, 2] * count for count in range(9)])
        self.assertEqual((thing, first), ([1, 2], []))


if __name__ == "__main__":
    unittest.main()
