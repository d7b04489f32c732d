import unittest
from math import gcd, isqrt

from formcycle.classes import classes, order_of, power, table, unit
from formcycle.errors import NoMeasure, NoShape, NotPlain, TooGreat
from formcycle.products import product
from formcycle.shapes import least_of
from tests.refusals import Refusals
from tests.samples import (
    DOMES,
    FLATS,
    GREAT,
    GREAT_FLATS,
    GREAT_SADDLES,
    is_no_square,
    is_tuple_of_wholes,
    is_whole,
    least_by_the_words,
    measure_of,
    move,
    plain_forms,
    rings,
    row_of_turns,
    saddle_measures,
    unit_form,
)

BOWL_MEASURES = [number for number in range(-4000, 0) if number % 4 < 2]
SADDLE_MEASURES = saddle_measures(4000)
# The edges and those beside them, all small ones, and some between.
SOME_BOWL_MEASURES = BOWL_MEASURES[:12] + BOWL_MEASURES[12:-60:23] + BOWL_MEASURES[-60:]
SOME_SADDLE_MEASURES = SADDLE_MEASURES[:60] + SADDLE_MEASURES[60:-12:23] + SADDLE_MEASURES[-12:]
# Their classes are many, or few; some have orders of many sizes, and some no class with a high order.
MEASURES = (-3, -4, -23, -47, -56, -84, -420, -3299, -4000, 5, 12, 40, 136, 229, 316, 3997, 4000)
LONG_BOWLS = (
    (GREAT, 1, GREAT + 1),
    (GREAT + 1, 2 * GREAT - 1, GREAT),
    (3, 1, 10 ** 199),
    (10 ** 199 + 1, 10 ** 199 - 3, 10 ** 199 + 13),
)
LONG_NUMBER = 10 ** 1999 // 5 + GREAT


def least_bowls_by_the_words(number):
    found = []
    for a in range(1, isqrt(-number) + 1):
        for b in range(-a, a + 1):
            if (b * b - number) % (4 * a) == 0:
                form = (a, b, (b * b - number) // (4 * a))
                if least_by_the_words(form) and gcd(*form) == 1:
                    found.append(form)
    return sorted(found)


def least_saddles_by_the_words(number):
    return sorted(ring[0] for ring in rings(number) if gcd(*ring[0]) == 1)


def unit_of_saddles_by_the_words(number):
    """The level form (1, b, c) is alike to the unit's form, for its middle number is of the same sort."""
    far = isqrt(number)
    b = far - (far - number) % 2
    level = (1, b, (b * b - number) // 4)
    return [ring[0] for ring in rings(number) if level in ring][0]


def long_turns():
    return [row_of_turns(seed, figures) for seed, figures in ((51, 5), (52, 30), (53, 95))]


def put(one, other):
    return product(one, other)[0]


class Classes(unittest.TestCase):
    def assert_classes(self, number, forms):
        told = classes(number)
        self.assertIs(type(told), list)
        self.assertTrue(all(is_tuple_of_wholes(form, 3) for form in told), number)
        self.assertEqual(told, forms, number)

    def test_by_hand(self):
        self.assertEqual(classes(-3), [(1, 1, 1)])
        self.assertEqual(classes(-4), [(1, 0, 1)])
        self.assertEqual(classes(-12), [(1, 0, 3)])
        self.assertEqual(classes(-15), [(1, 1, 4), (2, 1, 2)])
        self.assertEqual(classes(-20), [(1, 0, 5), (2, 2, 3)])
        self.assertEqual(classes(-23), [(1, 1, 6), (2, -1, 3), (2, 1, 3)])
        self.assertEqual(classes(5), [(-1, 1, 1)])
        self.assertEqual(classes(8), [(-1, 2, 1)])
        self.assertEqual(classes(12), [(-2, 2, 1), (-1, 2, 2)])

    def test_all_plain_least_bowls(self):
        for number in SOME_BOWL_MEASURES:
            self.assert_classes(number, least_bowls_by_the_words(number))

    def test_all_rings_of_plain_level_forms(self):
        for number in SOME_SADDLE_MEASURES:
            self.assert_classes(number, least_saddles_by_the_words(number))

    def test_the_edges_are_among_them(self):
        self.assertEqual(SOME_BOWL_MEASURES[:4], [-4000, -3999, -3996, -3995])
        self.assertEqual(SOME_SADDLE_MEASURES[-4:], [3993, 3996, 3997, 4000])

    def test_in_order_each_once_and_no_dome(self):
        for number in BOWL_MEASURES[::17] + SADDLE_MEASURES[::17]:
            told = classes(number)
            self.assertEqual(told, sorted(set(told)), number)
            for form in told:
                self.assertEqual(measure_of(form), number)
                self.assertEqual(gcd(*form), 1)
                self.assertEqual(least_of(form), form)
                self.assertTrue(number > 0 or form[0] > 0, form)

    def test_forms_are_in_a_class(self):
        for number in MEASURES:
            told = classes(number)
            for form in plain_forms(number, 9):
                self.assertIn(least_of(form), told)

    def test_the_told_list_is_the_askers_own(self):
        for number in (-23, 12, 4000):
            told = classes(number)
            kept = list(told)
            other = classes(number)
            other.reverse()
            other.clear()
            classes(-47)
            table(-23)
            self.assertEqual(told, kept)
            self.assertEqual(classes(number), kept)


class Unit(unittest.TestCase):
    def test_bowls(self):
        for number in BOWL_MEASURES:
            self.assertEqual(unit(number), unit_form(number))

    def test_by_hand(self):
        self.assertEqual(unit(-20), (1, 0, 5))
        self.assertEqual(unit(-23), (1, 1, 6))
        self.assertEqual(unit(5), (-1, 1, 1))
        self.assertEqual(unit(12), (-2, 2, 1))

    def test_saddles(self):
        for number in SOME_SADDLE_MEASURES:
            self.assertEqual(unit(number), unit_of_saddles_by_the_words(number), number)

    def test_all_measures(self):
        for number in SADDLE_MEASURES:
            self.assertEqual(unit(number), least_of(unit_form(number)))

    def test_far_below_the_bound_of_classes(self):
        self.assertEqual(unit(-4003), (1, 1, 1001))
        self.assertEqual(unit(-4004), (1, 0, 1001))
        self.assertEqual(unit(-4 * LONG_NUMBER), (1, 0, LONG_NUMBER))
        self.assertEqual(unit(1 - 4 * LONG_NUMBER), (1, 1, LONG_NUMBER))

    def test_with_a_form_from_either_side(self):
        for number in MEASURES:
            first = unit(number)
            self.assertTrue(is_tuple_of_wholes(first, 3))
            for form in plain_forms(number, 9):
                self.assertEqual(put(first, form), least_of(form))
                self.assertEqual(put(form, first), least_of(form))
        for form in LONG_BOWLS:
            self.assertEqual(put(unit(measure_of(form)), form), least_of(form))
            self.assertEqual(put(form, unit(measure_of(form))), least_of(form))

    def test_a_form_with_its_opposite(self):
        for number in MEASURES:
            for a, b, c in plain_forms(number, 9):
                self.assertEqual(put((a, b, c), (a, -b, c)), unit(number))
        for a, b, c in LONG_BOWLS:
            self.assertEqual(put((a, b, c), (a, -b, c)), unit(measure_of((a, b, c))))


class Power(unittest.TestCase):
    def assert_power(self, form, count, expected):
        told = power(form, count)
        self.assertTrue(is_tuple_of_wholes(told, 3))
        self.assertEqual(told, expected, (form, count))

    def assert_one_by_one(self, form, most):
        a, b, c = form
        up = down = unit(measure_of(form))
        for count in range(most):
            self.assert_power(form, count, up)
            self.assert_power(form, -count, down)
            up = put(up, form)
            down = put(down, (a, -b, c))

    def test_by_hand(self):
        self.assertEqual([power((2, 1, 3), count) for count in (-2, -1, 0, 1, 2, 3, 4)], [
            (2, 1, 3), (2, -1, 3), (1, 1, 6), (2, 1, 3), (2, -1, 3), (1, 1, 6), (2, 1, 3),
        ])
        self.assertEqual(power((1, 0, 1), 10 ** 6), (1, 0, 1))
        self.assertEqual(power((-1, 0, 3), 10 ** 6), unit(12))
        self.assertEqual(power((-1, 0, 3), 10 ** 6 - 1), (-1, 2, 2))

    def test_at_nought_one_and_minus_one(self):
        for number in MEASURES:
            for a, b, c in plain_forms(number, 7):
                self.assert_power((a, b, c), 0, unit(number))
                self.assert_power((a, b, c), 1, least_of((a, b, c)))
                self.assert_power((a, b, c), -1, least_of((a, -b, c)))

    def test_small_counts_one_by_one(self):
        for number in MEASURES:
            for form in plain_forms(number, 6)[::3] + classes(number)[::5]:
                self.assert_one_by_one(form, 12)
        for form in LONG_BOWLS:
            self.assert_one_by_one(form, 6)

    def test_of_moved_forms(self):
        for form in ((2, 1, 3), (3, 2, 277), (2, 0, -5), (3, 1, -332)):
            for turn in long_turns():
                for count in (0, 1, -1, 2, 7, -12, 10 ** 6, -10 ** 6):
                    self.assert_power(move(form, turn), count, power(form, count))

    def test_great_counts_by_the_order(self):
        for number in MEASURES:
            for form in classes(number)[::3]:
                often = order_of(form)
                for count in (10 ** 6, 10 ** 6 - 1, 999, -999, 1 - 10 ** 6, -10 ** 6):
                    came = unit(number)
                    for times in range(count % often):
                        came = put(came, form)
                    self.assert_power(form, count, came)

    def test_two_counts_together(self):
        for form in LONG_BOWLS + ((3, 2, 277), (2, 0, -5), (3, 1, -332)):
            for one, other in ((5, 8), (10 ** 6 - 7, 7), (10 ** 6, -10 ** 6), (-999983, -17), (10 ** 6, 1 - 10 ** 6)):
                self.assert_power(form, one + other, put(power(form, one), power(form, other)))

    def test_a_power_of_a_power(self):
        for form in LONG_BOWLS + ((3, 2, 277), (2, 0, -5)):
            self.assert_power(form, 10 ** 6, power(power(form, 1000), 1000))
            self.assert_power(form, -10 ** 6, power(power(form, -10), 10 ** 5))


class OrderOf(unittest.TestCase):
    def assert_order(self, form):
        told = order_of(form)
        self.assertTrue(is_whole(told))
        first = unit(measure_of(form))
        came = form
        count = 1
        while least_of(came) != first:
            came = put(came, form)
            count += 1
        self.assertEqual(told, count, form)

    def test_by_hand(self):
        self.assertEqual(order_of((1, 1, 6)), 1)
        self.assertEqual(order_of((2, 1, 3)), 3)
        self.assertEqual(order_of((2, -1, 3)), 3)
        self.assertEqual(order_of((2, 2, 3)), 2)
        self.assertEqual(order_of((1, 0, -3)), 1)
        self.assertEqual(order_of((-1, 0, 3)), 2)
        self.assertEqual(order_of((-1, 0, 2)), 1)

    def test_the_least_count_whose_power_is_the_unit(self):
        for number in MEASURES:
            for form in classes(number):
                self.assert_order(form)
            for form in plain_forms(number, 5):
                self.assert_order(form)

    def test_by_powers(self):
        for form in ((3, 2, 277), (2, 1, 6), (3, 1, -19), (10, 0, -99)):
            often = order_of(form)
            first = unit(measure_of(form))
            told = [power(form, count) for count in range(1, often + 1)]
            self.assertEqual([place + 1 for place, one in enumerate(told) if one == first], [often])

    def test_many_classes(self):
        for form in ((2, 1, 384), (5, 3, 154), (7, 3, 110)):
            self.assertEqual(measure_of(form), -3071)
            self.assert_order(form)
        self.assertEqual(max(order_of(form) for form in classes(-3071)), 76)

    def test_of_moved_forms(self):
        for form in ((2, 1, 3), (3, 2, 277), (2, 0, -5), (3, 1, -332)):
            for turn in long_turns():
                self.assertEqual(order_of(move(form, turn)), order_of(form))

    def test_at_the_bound(self):
        self.assertEqual(order_of((1, 0, 1000)), 1)
        self.assertEqual(order_of((8, 0, 125)), 2)
        self.assertEqual(order_of((1, 0, -1000)), 1)
        self.assertEqual(order_of((-1, 0, 1000)), 2)


class Table(unittest.TestCase):
    def test_by_hand(self):
        self.assertEqual(table(-3), [[0]])
        self.assertEqual(table(-20), [[0, 1], [1, 0]])
        self.assertEqual(table(-23), [[0, 1, 2], [1, 2, 0], [2, 0, 1]])
        self.assertEqual(table(5), [[0]])
        self.assertEqual(table(12), [[0, 1], [1, 0]])

    def test_products_of_all_two_classes(self):
        measures = [number for number in range(-400, 401) if number % 4 < 2 and is_no_square(number)]
        self.assertEqual((measures[0], measures[1], measures[-1]), (-400, -399, 397))
        for number in measures[:9] + measures[9:-9:4] + measures[-9:]:
            forms = classes(number)
            told = table(number)
            self.assertIs(type(told), list)
            self.assertEqual(len(told), len(forms))
            for one, row in zip(forms, told):
                self.assertIs(type(row), list)
                self.assertTrue(all(is_whole(place) for place in row))
                self.assertEqual([forms[place] for place in row], [put(one, other) for other in forms], number)

    def test_unit_and_opposites(self):
        for number in (-400, -399, -231, 40, 316, 396):
            forms = classes(number)
            told = table(number)
            first = forms.index(unit(number))
            self.assertEqual(told[first], list(range(len(forms))))
            self.assertEqual([row[first] for row in told], list(range(len(forms))))
            for place, (a, b, c) in enumerate(forms):
                self.assertEqual(told[place][forms.index(least_of((a, -b, c)))], first)

    def test_the_told_lists_are_the_askers_own(self):
        for number in (-23, -20, 12, -3, -399):
            told = table(number)
            kept = [list(row) for row in told]
            other = table(number)
            for row in other:
                row[0] = -1
                row.append(7)
            other.clear()
            self.assertEqual(told, kept)
            self.assertEqual(table(number), kept)
            self.assertEqual(len({id(row) for row in told}), len(told))


class RefusedMeasures(Refusals, unittest.TestCase):
    asked = (unit, classes, table)

    def test_no_measure(self):
        rests = [2, 3, 6, 7, 398, 399, 402, 403, 3998, 3999, 4002, 4003, 10 ** 1999 + 2, 10 ** 1999 + 3]
        rests += [-1, -2, -5, -6, -398, -397, -401, -402, -3998, -3997, -4001, -4002, -10 ** 1999 - 1, -10 ** 1999 - 2]
        squares = [0, 1, 4, 9, 16, 25, 361, 400, 441, 3969, 4096, 63 ** 2, 64 ** 2, 10 ** 1998, (10 ** 999 + 1) ** 2]
        for number in rests:
            self.assertIn(number % 4, (2, 3))
        for number in rests + squares:
            for asked in self.asked:
                self.assert_refused(NoMeasure, {"number": number}, asked, number)

    def test_all_small_numbers(self):
        for number in range(-40, 41):
            for asked in self.asked:
                if number % 4 > 1 or not is_no_square(number):
                    self.assert_refused(NoMeasure, {"number": number}, asked, number)
                else:
                    self.assertTrue(asked(number))

    def test_too_great(self):
        for number in (4001, 4004, 4005, 8000, 10 ** 1999, 10 ** 1999 + 1):
            fields = {"number": number, "most": 4000}
            self.assert_refused(TooGreat, fields, unit, number)
            self.assert_refused(TooGreat, fields, classes, number)
            self.assert_refused(TooGreat, {"number": number, "most": 400}, table, number)
        for number in (-4003, -4004, -4007, -8000, -10 ** 1999, -10 ** 1999 - 3):
            self.assertTrue(is_tuple_of_wholes(unit(number), 3))
            self.assert_refused(TooGreat, {"number": number, "most": 4000}, classes, number)
            self.assert_refused(TooGreat, {"number": number, "most": 400}, table, number)
        for number in (401, 404, 405, -403, -404, -407, 4000, -4000):
            self.assertTrue(classes(number))
            self.assert_refused(TooGreat, {"number": number, "most": 400}, table, number)

    def test_at_the_bounds(self):
        self.assertEqual(unit(4000), least_of((1, 0, -1000)))
        self.assertEqual(unit(3997), least_of((1, 1, -999)))
        self.assertTrue(len(classes(4000)) > 1 and len(classes(-4000)) > 1)
        self.assertEqual(len(table(-400)), len(classes(-400)))
        self.assertEqual(len(table(397)), len(classes(397)))
        self.assertEqual(len(table(396)), len(classes(396)))


class RefusedForms(Refusals, unittest.TestCase):
    not_plain = ((2, 0, 2), (3, 3, 3), (2, 2, -2), (5, 0, -10), (20, 0, -50))
    not_plain_below = ((2, 0, 502), (GREAT * 3, 3, 6), (11, 0, 11 * 11))
    counts = (0, 1, -1, 2, 10 ** 6, -10 ** 6)

    def test_no_shape(self):
        for form in DOMES + FLATS + GREAT_FLATS + ((-2, 0, -2), (2, 4, 2), (-2, 0, -502)):
            self.assert_refused(NoShape, {"form": form}, order_of, form)
            for count in self.counts:
                self.assert_refused(NoShape, {"form": form}, power, form, count)

    def test_too_great_a_saddle(self):
        for form in GREAT_SADDLES + ((2, 0, -502), (3, 3, -450)):
            fields = {"number": measure_of(form), "most": 4000}
            self.assertGreater(fields["number"], 4000)
            self.assert_refused(TooGreat, fields, order_of, form)
            for count in self.counts:
                self.assert_refused(TooGreat, fields, power, form, count)

    def test_order_of_a_bowl_below_the_bound(self):
        for form in ((1, 1, 1001), (1, 0, 1001), (3, 1, 334)) + LONG_BOWLS + self.not_plain_below:
            fields = {"number": measure_of(form), "most": 4000}
            self.assertLess(fields["number"], -4000)
            self.assert_refused(TooGreat, fields, order_of, form)

    def test_not_plain(self):
        for form in self.not_plain + self.not_plain_below:
            for count in self.counts:
                self.assert_refused(NotPlain, {"form": form}, power, form, count)
            moved = move(form, (2, 1, 1, 1))
            self.assert_refused(NotPlain, {"form": moved}, power, moved, 3)
        for form in self.not_plain + ((10, 0, 100), (2, 2, 500)):
            self.assert_refused(NotPlain, {"form": form}, order_of, form)
            moved = move(form, (2, 1, 1, 1))
            self.assert_refused(NotPlain, {"form": moved}, order_of, moved)

    def test_a_refused_call_changes_nothing(self):
        ahead = (classes(-23), table(-23), power((2, 1, 3), 5), order_of((2, 1, 3)), unit(-23))
        for asked, handed in (
            (classes, (-4003,)), (table, (-403,)), (unit, (4001,)), (power, ((2, 0, 2), 5)), (order_of, ((1, 2, 1),)),
        ):
            with self.assertRaises((NoMeasure, TooGreat, NotPlain, NoShape)):
                asked(*handed)
            self.assertEqual((classes(-23), table(-23), power((2, 1, 3), 5), order_of((2, 1, 3)), unit(-23)), ahead)


if __name__ == "__main__":
    unittest.main()
