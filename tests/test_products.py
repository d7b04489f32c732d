import unittest
from math import gcd

from formcycle.errors import Apart, NoShape, NotPlain, TooGreat
from formcycle.products import joined, product
from formcycle.shapes import least_of
from tests.refusals import Refusals
from tests.samples import (
    DOMES,
    FLATS,
    GREAT,
    GREAT_FLATS,
    GREAT_SADDLES,
    is_tuple_of_wholes,
    measure_of,
    move,
    plain_forms,
    points,
    row_of_turns,
    saddle_measures,
    small_forms,
    taken,
    unit_form,
)

POINTS = [(1, 0), (0, 1), (1, 1), (0, 0), (2, -3), (-5, 7), (GREAT, -2), (12345, GREAT)]
BOWL_MEASURES = (-3, -4, -7, -8, -15, -20, -23, -31, -39, -47, -56, -71, -84)
SADDLE_MEASURES = (5, 8, 12, 21, 40, 60, 65, 82 * 4, 85, 136, 145, 229, 257)


def joined_by_the_words(rows, one, other):
    (k, l, m, n), (t, u, v, w) = rows
    (x, y), (z, j) = one, other
    return (k * x * z + l * x * j + m * y * z + n * y * j, t * x * z + u * x * j + v * y * z + w * y * j)


class Products(unittest.TestCase):
    def assert_product(self, one, other):
        told = product(one, other)
        self.assertTrue(type(told) is tuple and len(told) == 2)
        form, rows = told
        self.assertTrue(is_tuple_of_wholes(form, 3), (one, other))
        self.assertTrue(type(rows) is tuple and len(rows) == 2)
        self.assertTrue(all(is_tuple_of_wholes(row, 4) for row in rows), (one, other))
        self.assertEqual(measure_of(form), measure_of(one))
        self.assertEqual(form, least_of(form), (one, other))
        (k, l, m, n), (t, u, v, w) = rows
        self.assertEqual(k * u - l * t, one[0], (one, other))
        self.assertEqual(k * v - m * t, other[0], (one, other))
        for first in POINTS:
            for second in POINTS:
                point = joined_by_the_words(rows, first, second)
                self.assertEqual(taken(one, first) * taken(other, second), taken(form, point), (one, other))
        return form

    def test_by_hand(self):
        self.assertEqual(product((1, 0, 1), (1, 0, 1))[0], (1, 0, 1))
        self.assertEqual(product((2, 2, 3), (2, 2, 3))[0], (1, 0, 5))
        self.assertEqual(product((2, 1, 3), (2, 1, 3))[0], (2, -1, 3))
        self.assertEqual(product((2, 1, 3), (2, -1, 3))[0], (1, 1, 6))
        self.assertEqual(product((2, -1, 3), (2, -1, 3))[0], (2, 1, 3))
        self.assertEqual(product((2, 0, -5), (2, 0, -5))[0], least_of((1, 0, -10)))
        self.assertEqual(product((-1, 0, 3), (-1, 0, 3))[0], least_of((1, 0, -3)))
        self.assertEqual(product((-1, 0, 3), (1, 0, -3))[0], least_of((-1, 0, 3)))

    def test_bowls(self):
        for number in BOWL_MEASURES:
            forms = plain_forms(number, 8)
            for one in forms[::3]:
                for other in forms[::2]:
                    self.assert_product(one, other)

    def test_saddles(self):
        for number in SADDLE_MEASURES:
            forms = plain_forms(number, 6)
            for one in forms[::4]:
                for other in forms[::3]:
                    self.assert_product(one, other)

    def test_forms_with_themselves(self):
        for form in small_forms(4):
            number = measure_of(form)
            if gcd(*form) == 1 and (number < 0 < form[0] or number in saddle_measures(200)):
                self.assert_product(form, form)

    def test_first_numbers_with_a_common_divisor(self):
        for one, other in (
            ((6, 1, 1), (6, 1, 1)),
            ((6, 5, 2), (6, -5, 2)),
            ((6, 1, 6), (6, -1, 6)),
            ((6, 1, 6), (12, 7, 4)),
            ((9, 7, 9), (3, 1, 23)),
            ((4, 2, 5), (4, -2, 5)),
            ((15, 0, 2), (6, 0, 5)),
            ((6, 0, -5), (-10, 0, 3)),
            ((-6, 1, 6), (6, 1, -6)),
            ((12, 1, -3), (-36, 1, 1)),
        ):
            self.assertGreater(gcd(one[0], other[0]), 1)
            self.assert_product(one, other)
            self.assert_product(other, one)

    def test_long_numbers(self):
        turns = [row_of_turns(seed, figures) for seed, figures in ((41, 30), (42, 95), (43, 95))]
        for one, other in (
            ((2, 1, 3), (2, 1, 3)),
            ((3, 2, 7), (5, 0, 4)),
            ((2, 0, -5), (1, 0, -10)),
            ((3, 1, -332), (1, 1, -996)),
        ):
            least = product(one, other)[0]
            for turn in turns:
                for second in turns:
                    self.assertEqual(self.assert_product(move(one, turn), move(other, second)), least)

    def test_long_bowls(self):
        for form in ((GREAT, 1, GREAT + 1), (GREAT + 1, 2 * GREAT - 1, GREAT), (1, 1, 10 ** 199), (3, 1, 10 ** 199)):
            self.assert_product(form, form)
            self.assert_product(form, (form[0], -form[1], form[2]))
            self.assert_product(form, (form[2], form[1], form[0]))

    def test_the_least_form_does_not_hang_on_which_forms_of_two_rows_are_put_together(self):
        turns = ((1, 0, 0, 1), (2, 1, 1, 1), (0, -1, 1, 3), (5, 3, -2, -1))
        for one, other in (((2, 1, 6), (3, 1, 4)), ((2, 0, -5), (3, 2, -3)), ((7, 3, -5), (5, 7, -5))):
            least = {product(move(one, first), move(other, second))[0] for first in turns for second in turns}
            self.assertEqual(len(least), 1, (one, other))
            self.assertEqual({product(other, one)[0]}, least)

    def test_grouping_makes_no_difference(self):
        for number in (-23, -47, -56, -84, 40, 60, 136, 229):
            forms = sorted({least_of(form) for form in plain_forms(number, 6)})
            for one in forms:
                for other in forms:
                    for third in forms:
                        left = product(product(one, other)[0], third)[0]
                        self.assertEqual(left, product(one, product(other, third)[0])[0])

    def test_with_the_unit_and_with_the_opposite(self):
        for number in BOWL_MEASURES + SADDLE_MEASURES:
            unit = unit_form(number)
            for a, b, c in plain_forms(number, 7):
                self.assertEqual(product((a, b, c), unit)[0], least_of((a, b, c)))
                self.assertEqual(product(unit, (a, b, c))[0], least_of((a, b, c)))
                self.assertEqual(product((a, b, c), (a, -b, c))[0], least_of(unit))

    def test_all_measures_of_saddles(self):
        for number in saddle_measures(4000)[::7]:
            forms = plain_forms(number, 9)
            self.assert_product(forms[0], forms[-1])


class Joined(unittest.TestCase):
    def test_by_hand(self):
        rows = ((1, 0, 0, -1), (0, 1, 1, 0))
        self.assertEqual(joined(rows, (2, 3), (5, 7)), (2 * 5 - 3 * 7, 2 * 7 + 3 * 5))
        self.assertEqual(joined(((2, 3, 5, 7), (11, 13, 17, 19)), (1, 10), (100, 1000)), (78200, 221100))

    def test_by_the_sums(self):
        rows = ((2, -3, GREAT, 7), (0, 13, -17, 10 ** 1999))
        for one in points():
            for other in points():
                told = joined(rows, one, other)
                self.assertTrue(is_tuple_of_wholes(told, 2))
                self.assertEqual(told, joined_by_the_words(rows, one, other))

    def test_by_the_rows_of_a_product(self):
        for one, other in (((2, 1, 3), (3, -1, 2)), ((2, 0, -5), (3, 2, -3))):
            form, rows = product(one, other)
            for first in points():
                for second in points():
                    point = joined(rows, first, second)
                    self.assertEqual(taken(form, point), taken(one, first) * taken(other, second))


class Refused(Refusals, unittest.TestCase):
    no_shape = [(NoShape, {"form": form}, form) for form in DOMES + FLATS + GREAT_FLATS]
    too_great = [(TooGreat, {"number": measure_of(form), "most": 4000}, form) for form in GREAT_SADDLES]
    # Neither plain, nor of a measure that another one of these has.
    not_plain = ((2, 0, 2), (3, 3, 3), (2, 2, -2), (5, 0, -10), (7 * GREAT, 0, 7))

    def test_shapes_come_first(self):
        refused = self.no_shape + self.too_great
        for refusal, fields, form in refused:
            for other in ((1, 0, 1), (1, 0, -2)) + self.not_plain:
                self.assert_refused(refusal, fields, product, form, other)
                self.assert_refused(refusal, fields, product, other, form)
            for second in refused:
                self.assert_refused(refusal, fields, product, form, second[2])

    def test_apart_comes_ahead_of_not_plain(self):
        forms = ((1, 0, 1), (1, 1, 1), (1, 0, -2), (1, 1, -1), (GREAT, 1, GREAT)) + self.not_plain
        for one in forms:
            for other in forms:
                if measure_of(one) != measure_of(other):
                    self.assert_refused(Apart, {}, product, one, other)

    def test_not_plain(self):
        for form in self.not_plain:
            plain = unit_form(measure_of(form))
            self.assert_refused(NotPlain, {"form": form}, product, form, plain)
            self.assert_refused(NotPlain, {"form": form}, product, plain, form)
            self.assert_refused(NotPlain, {"form": form}, product, form, form)
            moved = move(form, (2, 1, 1, 1))
            self.assert_refused(NotPlain, {"form": form}, product, form, moved)
            self.assert_refused(NotPlain, {"form": moved}, product, moved, form)

    def test_a_refused_call_changes_nothing(self):
        ahead = product((2, 1, 3), (2, 1, 3))
        for one, other in (((1, 2, 1), (2, 1, 3)), ((2, 1, 3), (1, 0, 1)), ((2, 0, 2), (2, 0, 2))):
            with self.assertRaises((NoShape, Apart, NotPlain)):
                product(one, other)
            self.assertEqual(product((2, 1, 3), (2, 1, 3)), ahead)


if __name__ == "__main__":
    unittest.main()
