import math
import unittest

from formcycle.errors import NoTurn
from formcycle.forms import content, measure, moved, opposite, shape, value
from formcycle.turns import SAME, led, then
from tests.samples import GREAT, NO_TURNS, great_forms, great_turns, points, small_forms, small_turns

FORMS = small_forms(3) + great_forms()
SOME_FORMS = small_forms(1) + great_forms() + [(2, -3, 5), (-7, 4, 6), (10, 15, -20)]
TURNS = small_turns(2) + great_turns()
SOME_TURNS = small_turns(1)[::3] + great_turns() + [(2, 1, 1, 1), (0, -1, 1, 5), (3, 5, 4, 7)]


class Measure(unittest.TestCase):
    def test_by_hand(self):
        self.assertEqual(measure((1, 0, 1)), -4)
        self.assertEqual(measure((2, 3, -5)), 49)
        self.assertEqual(measure((0, -7, 9)), 49)
        self.assertEqual(measure((0, 0, 0)), 0)

    def test_by_the_sum(self):
        for a, b, c in FORMS:
            self.assertEqual(measure((a, b, c)), b * b - 4 * a * c)


class Value(unittest.TestCase):
    def test_by_hand(self):
        self.assertEqual(value((2, 3, -5), (7, -4)), 2 * 49 - 3 * 28 - 5 * 16)
        self.assertEqual(value((2, 3, -5), (0, 0)), 0)
        self.assertEqual(value((2, 3, -5), (1, 0)), 2)
        self.assertEqual(value((2, 3, -5), (0, 1)), -5)

    def test_by_the_sum(self):
        for a, b, c in FORMS:
            for x, y in points():
                self.assertEqual(value((a, b, c), (x, y)), a * x * x + b * x * y + c * y * y)


class Moved(unittest.TestCase):
    def test_by_hand(self):
        self.assertEqual(moved((2, 3, -5), SAME), (2, 3, -5))
        self.assertEqual(moved((2, 3, -5), (0, -1, 1, 0)), (-5, -3, 2))
        self.assertEqual(moved((2, 3, -5), (1, 1, 0, 1)), (2, 7, 0))
        self.assertEqual(moved((1, 0, 1), (2, 1, 1, 1)), (5, 6, 2))

    def test_by_the_sums(self):
        for a, b, c in SOME_FORMS:
            for p, q, r, s in TURNS:
                self.assertEqual(
                    moved((a, b, c), (p, q, r, s)),
                    (
                        a * p * p + b * p * r + c * r * r,
                        2 * a * p * q + b * (p * s + q * r) + 2 * c * r * s,
                        a * q * q + b * q * s + c * s * s,
                    ),
                )

    def test_takes_what_the_first_form_takes_where_the_turn_leads(self):
        for form in SOME_FORMS:
            for turn in SOME_TURNS:
                for point in points():
                    self.assertEqual(value(moved(form, turn), point), value(form, led(turn, point)))

    def test_measure_and_content_stay(self):
        for form in SOME_FORMS:
            for turn in TURNS:
                self.assertEqual(measure(moved(form, turn)), measure(form))
                self.assertEqual(content(moved(form, turn)), content(form))

    def test_moved_by_one_and_then_by_another(self):
        for form in SOME_FORMS:
            for one in SOME_TURNS:
                for other in SOME_TURNS:
                    self.assertEqual(moved(moved(form, one), other), moved(form, then(one, other)))

    def test_what_is_no_turn_is_refused(self):
        for turn in NO_TURNS:
            for form in SOME_FORMS:
                with self.assertRaises(NoTurn) as refusal:
                    moved(form, turn)
                self.assertEqual(refusal.exception.turn, turn)


class Content(unittest.TestCase):
    def test_by_hand(self):
        self.assertEqual(content((0, 0, 0)), 0)
        self.assertEqual(content((-6, 10, -4)), 2)
        self.assertEqual(content((6, 10, 15)), 1)
        self.assertEqual(content((0, -12, 18)), 6)
        self.assertEqual(content((0, 0, -5)), 5)
        self.assertEqual(content((-5, 0, 0)), 5)
        self.assertEqual(content((0, -5, 0)), 5)

    def test_greatest_that_divides_all_three(self):
        for form in FORMS + [(6 * GREAT, -15 * GREAT, 10 * GREAT), (-4 * GREAT, 0, 6)]:
            self.assertEqual(content(form), math.gcd(*form), form)


class Opposite(unittest.TestCase):
    def test_by_the_sum(self):
        for a, b, c in FORMS:
            self.assertEqual(opposite((a, b, c)), (a, -b, c))
            self.assertEqual(opposite(opposite((a, b, c))), (a, b, c))


class Shape(unittest.TestCase):
    def assert_shape(self, word, forms):
        for form in forms:
            told = shape(form)
            self.assertIs(type(told), str)
            self.assertEqual(told, word, form)

    def test_bowls(self):
        self.assert_shape("bowl", [(1, 0, 1), (1, 1, 1), (1, -1, 1), (5, 4, 1), (1, 2, 2), (GREAT, 1, GREAT)])

    def test_domes(self):
        self.assert_shape("dome", [(-1, 0, -1), (-1, 1, -1), (-1, -1, -1), (-5, 4, -1), (-1, 2, -2)])
        self.assert_shape("dome", [(-GREAT, 1, -GREAT)])

    def test_saddles(self):
        # Their measures are 5, 8, 12 and one that lies four above a square.
        self.assert_shape("saddle", [(1, 1, -1), (-1, 1, 1), (1, 0, -2), (-1, 0, 2), (3, 0, -1), (-3, 0, 1)])
        self.assert_shape("saddle", [(1, 2 * GREAT, -1), (-1, -2 * GREAT, 1)])

    def test_flats(self):
        self.assert_shape("flat", [(0, 0, 0), (1, 2, 1), (-1, 2, -1), (1, 0, 0), (0, 0, 1), (0, 0, -1)])
        self.assert_shape("flat", [(0, 1, 0), (0, -5, 7), (1, 3, 2), (1, 0, -1), (-1, 1, 0), (0, GREAT, -GREAT)])
        self.assert_shape("flat", [(GREAT * GREAT, 2 * GREAT, 1), (1, 0, -GREAT * GREAT)])

    def test_beside_a_square(self):
        # The measure of (1, 0, -n) is 4 n and that of (1, 1, -n) is 4 n + 1: each measure that there is comes up.
        squares = {side * side for side in range(200)}
        for number in range(1, 20000):
            if number % 4 < 2:
                form = (1, number % 4, -(number // 4))
                self.assertEqual(shape(form), "flat" if number in squares else "saddle", form)
        self.assertEqual(shape((1, 0, -GREAT * GREAT)), "flat")
        self.assertEqual(shape((1, 0, -GREAT * GREAT - 1)), "saddle")
        self.assertEqual(shape((1, 0, -GREAT * GREAT + 1)), "saddle")

    def test_by_the_words_of_the_document(self):
        squares = {side * side for side in range(50)}
        for a, b, c in small_forms(6):
            number = b * b - 4 * a * c
            if number in squares:
                word = "flat"
            elif number > 0:
                word = "saddle"
            else:
                word = "bowl" if a > 0 else "dome"
            self.assertEqual(shape((a, b, c)), word)

    def test_the_signs_that_shapes_take(self):
        signs = {"bowl": {1}, "dome": {-1}, "saddle": {-1, 1}}
        around = [(x, y) for x in range(-9, 10) for y in range(-9, 10) if (x, y) != (0, 0)]
        for form in small_forms(2):
            if shape(form) != "flat":
                taken = [value(form, point) for point in around]
                self.assertNotIn(0, taken)
                self.assertEqual({1 if number > 0 else -1 for number in taken}, signs[shape(form)], form)


if __name__ == "__main__":
    unittest.main()
