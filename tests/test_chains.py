import unittest
from math import isqrt

from formcycle.chains import chain, fraction, minus_one, part, plus_one
from formcycle.errors import NoRoot, TooGreat
from tests.refusals import Refusals
from tests.samples import is_no_square, is_tuple_of_wholes, is_whole

NUMBERS = [number for number in range(2, 1001) if is_no_square(number)]
SOME_NUMBERS = NUMBERS[:40] + [61, 109, 331, 421, 571, 631, 919, 941, 991] + NUMBERS[-12:]
LONG = 10 ** 1999


def rows_without_end(number, count):
    """The first rows of the chain gone on with without end, by the words of the document."""
    f = isqrt(number)
    rows = [(0, 1, f)]
    while len(rows) < count:
        p, q, a = rows[-1]
        p = a * q - p
        assert (number - p * p) % q == 0
        q = (number - p * p) // q
        a = 0
        while (a + 1) * q <= f + p:
            a += 1
        rows.append((p, q, a))
    return rows


def root_of_degree(number, degree):
    """The greatest whole number whose power of this degree is no greater."""
    low, high = 0, 1 << (number.bit_length() // degree + 1)
    while high - low > 1:
        middle = (low + high) // 2
        if middle ** degree <= number:
            low = middle
        else:
            high = middle
    return low


def lesser_point(number, x, rest, degrees):
    """A point with a lesser x of which the one with x is a power of one of the degrees, or None.

    All points for which x x - N y y is 1 or -1 are powers of one of them, by the numbers x + y times the root of N;
    so a point that isn't the least has a lesser one whose power of some prime degree it is. The power's number is about
    2 x, so that twice the lesser one's x is its root of that degree.
    """
    for degree in degrees:
        near = root_of_degree(2 * x, degree) // 2
        for less in range(max(near - 2, 1), near + 3):
            square, left = divmod(less * less - rest, number)
            if less < x and left == 0 and square > 0 and not is_no_square(square):
                return (less, isqrt(square))
    return None


class Chain(unittest.TestCase):
    def test_by_hand(self):
        self.assertEqual(chain(2), [(0, 1, 1), (1, 1, 2)])
        self.assertEqual(chain(3), [(0, 1, 1), (1, 2, 1), (1, 1, 2)])
        self.assertEqual(chain(7), [(0, 1, 2), (2, 3, 1), (1, 2, 1), (1, 3, 1), (2, 1, 4)])
        self.assertEqual(chain(1000)[:3], [(0, 1, 31), (31, 39, 1), (8, 24, 1)])
        self.assertEqual([row[2] for row in chain(23)], [4, 1, 3, 1, 8])

    def test_every_number(self):
        for number in NUMBERS:
            told = chain(number)
            self.assertIs(type(told), list)
            self.assertTrue(all(is_tuple_of_wholes(row, 3) for row in told))
            self.assertEqual(told, rows_without_end(number, len(told)), number)
            self.assertGreater(len(told), 1)
            self.assertEqual(told[-1][1], 1)
            self.assertNotIn(1, [row[1] for row in told[1:-1]], number)

    def test_the_told_list_is_the_askers_own(self):
        for number in (2, 7, 61, 1000):
            told = chain(number)
            kept = list(told)
            other = chain(number)
            other.reverse()
            other.pop()
            part(number, 5)
            fraction(number, 300)
            self.assertEqual(told, kept)
            self.assertEqual(chain(number), kept)


class Part(unittest.TestCase):
    def test_small_places_one_by_one(self):
        for number in NUMBERS:
            rows = rows_without_end(number, 12)
            self.assertEqual([part(number, k) for k in range(12)], [row[2] for row in rows], number)
        for number in SOME_NUMBERS:
            rows = rows_without_end(number, 200)
            self.assertEqual([part(number, k) for k in range(200)], [row[2] for row in rows], number)

    def test_places_of_many_figures(self):
        for number in SOME_NUMBERS:
            again = len(chain(number)) - 1
            rows = rows_without_end(number, again + 3)
            for often in (10 ** 6, 10 ** 60 + 3, LONG // again):
                for place in (1, 2, again // 2 + 1, again):
                    told = part(number, often * again + place)
                    self.assertTrue(is_whole(told))
                    self.assertEqual(told, rows[place][2], (number, often, place))
            for k in (LONG - 1, LONG, LONG + 1, 10 * LONG - 1):
                self.assertEqual(part(number, k), rows[(k - 1) % again + 1][2])

    def test_the_first_part_does_not_come_again(self):
        for number in NUMBERS:
            again = len(chain(number)) - 1
            self.assertEqual(part(number, 0), isqrt(number))
            self.assertEqual(part(number, again), 2 * isqrt(number))
            self.assertEqual(part(number, 3 * again), 2 * isqrt(number))


class Fraction(unittest.TestCase):
    def test_by_hand(self):
        self.assertEqual([fraction(2, k) for k in range(5)], [(1, 1), (3, 2), (7, 5), (17, 12), (41, 29)])
        self.assertEqual([fraction(7, k) for k in range(5)], [(2, 1), (3, 1), (5, 2), (8, 3), (37, 14)])
        self.assertEqual(fraction(3, 1), (2, 1))
        self.assertEqual(fraction(1000, 1), (32, 1))

    def assert_fractions(self, number, places):
        parts = [row[2] for row in rows_without_end(number, 301)]
        made = [(parts[0], 1), (parts[0] * parts[1] + 1, parts[1])]
        for k in range(2, 301):
            top = parts[k] * made[k - 1][0] + made[k - 2][0]
            bottom = parts[k] * made[k - 1][1] + made[k - 2][1]
            made.append((top, bottom))
        for k in places:
            told = fraction(number, k)
            self.assertTrue(is_tuple_of_wholes(told, 2))
            self.assertEqual(told, made[k], (number, k))

    def test_all_places(self):
        for number in (2, 3, 7, 61, 991, 999, 1000):
            self.assert_fractions(number, range(301))

    def test_every_number(self):
        for number in NUMBERS[::3]:
            self.assert_fractions(number, (0, 1, 2, 3, 17, 299, 300))


class PlusOneAndMinusOne(unittest.TestCase):
    def test_by_hand(self):
        self.assertEqual((plus_one(2), minus_one(2)), ((3, 2), (1, 1)))
        self.assertEqual((plus_one(3), minus_one(3)), ((2, 1), None))
        self.assertEqual((plus_one(5), minus_one(5)), ((9, 4), (2, 1)))
        self.assertEqual((plus_one(7), minus_one(7)), ((8, 3), None))
        self.assertEqual((plus_one(13), minus_one(13)), ((649, 180), (18, 5)))
        self.assertEqual((plus_one(61), minus_one(61)), ((1766319049, 226153980), (29718, 3805)))
        self.assertEqual((plus_one(34), minus_one(34)), ((35, 6), None))
        self.assertEqual((plus_one(1000), minus_one(1000)), ((39480499, 1248483), None))
        self.assertEqual(plus_one(991), (379516400906811930638014896080, 12055735790331359447442538767))

    def test_the_sums(self):
        for number in NUMBERS:
            x, y = plus_one(number)
            self.assertTrue(is_tuple_of_wholes(plus_one(number), 2))
            self.assertTrue(x > 0 and y > 0)
            self.assertEqual(x * x - number * y * y, 1)
            if minus_one(number) is not None:
                x, y = minus_one(number)
                self.assertTrue(is_tuple_of_wholes(minus_one(number), 2))
                self.assertTrue(x > 0 and y > 0)
                self.assertEqual(x * x - number * y * y, -1)

    def test_no_lesser_one_by_going_through(self):
        for number in NUMBERS:
            for rest, point in ((1, plus_one(number)), (-1, minus_one(number))):
                most = 600 if point is None else min(point[1], 600)
                for y in range(1, most):
                    self.assertTrue(is_no_square(number * y * y + rest), (number, y))

    def test_no_lesser_one_of_which_it_is_a_power(self):
        self.assertEqual(lesser_point(2, 99, 1, (2, 3, 5)), (3, 2))
        self.assertEqual(lesser_point(2, 577, 1, (2, 3, 5)), (17, 12))
        self.assertEqual(lesser_point(2, 7, -1, (3, 5)), (1, 1))
        primes = [number for number in range(2, 140) if all(number % less for less in range(2, number))]
        for number in NUMBERS:
            x = plus_one(number)[0]
            self.assertLess(2 * x, 1 << 139)
            self.assertIsNone(lesser_point(number, x, 1, primes), number)
            if minus_one(number) is not None:
                self.assertIsNone(lesser_point(number, minus_one(number)[0], -1, primes[1:]), number)

    def test_the_minus_one_by_the_plus_one(self):
        # Where there is a minus one (x, y), the plus one is (2 x x + 1, 2 x y).
        for number in NUMBERS:
            top, bottom = plus_one(number)
            x = isqrt((top - 1) // 2)
            y = isqrt((x * x + 1) // number)
            is_there = (2 * x * x + 1, 2 * x * y) == (top, bottom)
            self.assertEqual(minus_one(number), (x, y) if is_there else None, number)


class Refused(Refusals, unittest.TestCase):
    asked = (
        (chain, ()),
        (part, (0,)),
        (part, (7,)),
        (part, (LONG,)),
        (fraction, (0,)),
        (fraction, (300,)),
        (fraction, (301,)),
        (fraction, (LONG,)),
        (plus_one, ()),
        (minus_one, ()),
    )
    no_root = (0, 1, -1, -2, -4, -1000, -1001, 4, 9, 16, 900, 961, 1024, 10 ** 4, -LONG, 10 ** 1998, (10 ** 999 + 1) ** 2)
    too_great = (1001, 1002, 1023, 1025, 4000, LONG, LONG + 7)

    def test_no_root(self):
        for number in self.no_root:
            for asked, more in self.asked:
                self.assert_refused(NoRoot, {"number": number}, asked, number, *more)

    def test_every_square(self):
        for side in range(100):
            for asked, more in self.asked:
                self.assert_refused(NoRoot, {"number": side * side}, asked, side * side, *more)

    def test_too_great(self):
        for number in self.too_great:
            for asked, more in self.asked:
                self.assert_refused(TooGreat, {"number": number, "most": 1000}, asked, number, *more)

    def test_at_the_bounds(self):
        for number in (2, 1000):
            self.assertEqual(chain(number)[0], (0, 1, isqrt(number)))
            self.assertEqual(part(number, 0), isqrt(number))
            self.assertEqual(fraction(number, 0), (isqrt(number), 1))
            self.assertTrue(plus_one(number))
        self.assertIsNone(minus_one(1000))

    def test_too_great_a_place(self):
        for number in (2, 3, 61, 1000):
            self.assertTrue(fraction(number, 300))
            for k in (301, 302, 1000, LONG):
                self.assert_refused(TooGreat, {"number": k, "most": 300}, fraction, number, k)

    def test_a_refused_call_changes_nothing(self):
        def told():
            return (chain(7), part(7, 9), fraction(7, 9), plus_one(7), minus_one(7))

        ahead = told()
        for asked, handed in ((chain, (9,)), (chain, (1001,)), (fraction, (7, 301)), (plus_one, (-7,))):
            with self.assertRaises((NoRoot, TooGreat)):
                asked(*handed)
            self.assertEqual(told(), ahead)


if __name__ == "__main__":
    unittest.main()
