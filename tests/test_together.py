"""What the document promises over the whole program: parts of it that must tell the same of one thing."""

import unittest
from math import gcd, isqrt

from formcycle.answers import all_answers, heads, whence
from formcycle.bowls import own_turns
from formcycle.chains import chain, fraction, minus_one, part, plus_one
from formcycle.classes import classes, order_of, power, table, unit
from formcycle.forms import measure, moved, opposite, value
from formcycle.near import nearest
from formcycle.products import joined, product
from formcycle.saddles import power_of, step_of
from formcycle.shapes import alike, least_of, shape_of
from formcycle.turns import back, led, then, times
from tests.samples import is_no_square, plain_forms, row_of_turns, so_many

NUMBERS = [number for number in range(2, 1001) if is_no_square(number)]
MEASURES = (-3, -4, -15, -23, -47, -84, -231, 5, 8, 12, 40, 60, 145, 229, 316)
FORMS = (
    (1, 0, 1), (1, 1, 1), (2, 1, 3), (2, 2, 2), (3, 1, 7), (1, 0, 5), (6, 0, 6), (1, 1, -1), (1, 0, -2), (2, 0, -5),
    (3, 0, -6), (3, 2, -3), (1, 0, -61), (7, 3, -5),
)
ASKED = (1, -1, 2, 4, 5, -5, 7, 9, -9, 12, 25, 36, 49, 72, -100, 144, 225, 400)


def long_turns():
    return [row_of_turns(seed, figures) for seed, figures in ((71, 3), (72, 30), (73, 93))]


class AnswersOfAlikeForms(unittest.TestCase):
    def test_a_way_leads_families_to_families(self):
        for form in FORMS:
            for turn in long_turns():
                other = moved(form, turn)
                # Moved by a turn a form takes at a point what it took where the turn leads the point.
                way = alike(form, other)
                for number in ASKED:
                    ahead, behind = heads(form, number), heads(other, number)
                    places = [whence(form, number, led(way, head))[0] for head in behind]
                    self.assertEqual(sorted(places), list(range(len(ahead))), (form, number))
                    places = [whence(other, number, led(back(way), head))[0] for head in ahead]
                    self.assertEqual(sorted(places), list(range(len(behind))), (form, number))

    def test_all_answers_of_alike_bowls(self):
        for form in FORMS[:7]:
            for turn in long_turns():
                other = moved(form, turn)
                way = shape_of(form).way_to(other)
                for number in ASKED:
                    answers = [led(way, point) for point in all_answers(other, number)]
                    self.assertEqual(sorted(answers), all_answers(form, number))

    def test_all_answers_come_from_heads(self):
        for form in FORMS[:7]:
            for number in ASKED:
                answers = all_answers(form, number)
                ahead = heads(form, number)
                self.assertEqual(len(answers), len(ahead) * len(own_turns(form)))
                for point in answers:
                    place, turn = whence(form, number, point)
                    self.assertIn(turn, own_turns(form))
                    self.assertEqual(led(turn, ahead[place]), point)

    def test_whence_tells_own_turns(self):
        for form in FORMS[7:]:
            shape = shape_of(form)
            for number in ASKED:
                for head in heads(form, number):
                    place = whence(form, number, head)[0]
                    for count in (-9, -1, 0, 1, 9):
                        own = times(step_of(form), count)
                        told = whence(form, number, led(own, head))
                        self.assertEqual(told, (place, own))
                        self.assertIs(shape.leaves(told[1]), True)
                        self.assertEqual(power_of(form, told[1]), (1, count))

    def test_the_classes_that_take_a_number_are_those_of_the_forms_that_begin_with_it(self):
        for number in MEASURES:
            for first in (1, 2, 3, 6, 7, 12, -2):
                begin = [form for form in plain_forms(number, 2 * abs(first)) if form[0] == first]
                taken = [form for form in classes(number) if any(gcd(*head) == 1 for head in heads(form, first))]
                self.assertEqual(taken, sorted({least_of(form) for form in begin}), (number, first))


class ProductsAndWhatTheyTake(unittest.TestCase):
    def test_answers_are_joined_to_answers(self):
        for number in MEASURES:
            forms = plain_forms(number, 5)[::3]
            for one in forms[:4]:
                for other in forms[-4:]:
                    form, rows = product(one, other)
                    for left in (1, 2, 3, -3, 5, 6, 12):
                        for right in (1, -1, 4, 7, -11, 30):
                            self.assert_joined(one, left, other, right, form, rows)

    def assert_joined(self, one, left, other, right, form, rows):
        ahead = heads(form, left * right)
        for first in heads(one, left):
            for second in heads(other, right):
                point = joined(rows, first, second)
                place, turn = whence(form, left * right, point)
                self.assertEqual(led(turn, ahead[place]), point)

    def test_products_take_what_both_take_together(self):
        for number in MEASURES:
            forms = classes(number)
            taken = {form: [count for count in range(1, 20) if heads(form, count)] for form in forms}
            for one in forms:
                for other in forms:
                    form = product(one, other)[0]
                    for left in taken[one]:
                        for right in taken[other]:
                            self.assertTrue(heads(form, left * right), (one, other, left, right))

    def test_a_form_takes_one_just_where_it_is_in_the_class_of_the_unit(self):
        for number in MEASURES + (-420, 4000, 3997):
            for form in classes(number):
                self.assertEqual(bool(heads(form, 1)), form == unit(number))
        for number in MEASURES:
            for form in plain_forms(number, 6):
                self.assertEqual(bool(heads(form, 1)), alike(form, unit(number)) is not None)


class ClassesAndProducts(unittest.TestCase):
    def test_products_and_opposites_are_classes(self):
        for number in MEASURES:
            forms = classes(number)
            for form in forms:
                self.assertEqual(measure(form), number)
                self.assertIn(least_of(opposite(form)), forms)
                self.assertEqual(power(form, -1), least_of(opposite(form)))
                self.assertEqual(product(form, opposite(form))[0], unit(number))

    def test_the_class_of_a_product_does_not_hang_on_the_forms(self):
        for number in (-23, -84, -231, 40, 60, 316):
            forms = classes(number)
            told = table(number)
            for first, one in enumerate(forms):
                for second, other in enumerate(forms):
                    for turn in long_turns():
                        form = product(moved(one, turn), moved(other, back(turn)))[0]
                        self.assertEqual(form, forms[told[first][second]])

    def test_powers_by_the_table(self):
        for number in (-23, -84, -231, -399, 40, 60, 316):
            forms = classes(number)
            told = table(number)
            first = forms.index(unit(number))
            for place, form in enumerate(forms):
                came = first
                for count in range(2 * len(forms) + 1):
                    self.assertEqual(power(form, count), forms[came])
                    came = told[came][place]

    def test_orders_divide_the_number_of_classes(self):
        for number in MEASURES + (-3071, -4000, 4000, 3997):
            forms = classes(number)
            for form in forms:
                self.assertEqual(len(forms) % order_of(form), 0)
                self.assertEqual(power(form, len(forms)), unit(number))
                self.assertEqual(order_of(form), order_of(opposite(form)))


class ChainsStepsAndNearness(unittest.TestCase):
    def test_the_plus_one_is_in_the_step(self):
        for number in NUMBERS:
            x, y = plus_one(number)
            self.assertEqual(step_of((1, 0, -number)), (x, number * y, y, x))

    def test_the_minus_one_is_an_answer(self):
        for number in NUMBERS:
            form = (1, 0, -number)
            self.assertEqual(minus_one(number) is None, heads(form, -1) == [], number)
            if minus_one(number) is not None:
                self.assertEqual(value(form, minus_one(number)), -1)
                x, y = minus_one(number)
                self.assertEqual((x * x + number * y * y, 2 * x * y), plus_one(number))

    def test_answers_for_one_are_steps(self):
        for number in NUMBERS[::7]:
            form = (1, 0, -number)
            self.assertEqual(len(heads(form, 1)), 1)
            turn = whence(form, 1, (1, 0))[1]
            for count in (-5, -1, 1, 2, 5):
                point = led(so_many(step_of(form), count), (1, 0))
                self.assertEqual(whence(form, 1, point)[1], then(times(step_of(form), count), turn))
            self.assertEqual(led(step_of(form), (1, 0)), plus_one(number))

    def test_fractions_take_the_rows_numbers(self):
        for number in NUMBERS[::3]:
            rows = chain(number)
            for k in range(len(rows) - 1):
                sign = -1 if k % 2 == 0 else 1
                self.assertEqual(value((1, 0, -number), fraction(number, k)), sign * rows[k + 1][1], (number, k))

    def test_plus_one_and_minus_one_are_fractions(self):
        for number in NUMBERS:
            again = len(chain(number)) - 1
            last = fraction(number, again - 1)
            if again % 2 == 0:
                self.assertEqual((plus_one(number), minus_one(number)), (last, None))
            else:
                self.assertEqual((plus_one(number), minus_one(number)), (fraction(number, 2 * again - 1), last))

    def test_small_numbers_that_are_taken_are_taken_by_fractions(self):
        for number in (2, 3, 7, 13, 61, 94, 139, 211, 331):
            form = (1, 0, -number)
            fractions = {fraction(number, k) for k in range(2 * len(chain(number)))}
            for asked in range(-isqrt(number), isqrt(number) + 1):
                if asked != 0:
                    taken = any(gcd(*head) == 1 for head in heads(form, asked))
                    self.assertEqual(taken, asked in [value(form, one) for one in fractions | {(1, 0)}], (number, asked))

    def test_a_fraction_is_the_nearest_up_to_its_bottom(self):
        for number in NUMBERS[::3]:
            for k in range(1, 40):
                one = fraction(number, k)
                if one[1] <= 10 ** 60:
                    self.assertEqual(nearest(number, one[1]), one)
                    # As long as half of the way to the fraction behind isn't gone, nothing nearer comes.
                    most = fraction(number, k - 1)[1] + (part(number, k + 1) - 1) // 2 * one[1]
                    self.assertEqual(nearest(number, max(most, one[1])), one)

    def test_the_plus_one_is_the_nearest_up_to_its_bottom(self):
        for number in NUMBERS:
            self.assertEqual(nearest(number, plus_one(number)[1]), plus_one(number))


if __name__ == "__main__":
    unittest.main()
