import unittest

from formcycle.bowls import settled
from formcycle.errors import NoShape, NoTurn, TooGreat
from formcycle.saddles import round_of, step_of
from formcycle.shapes import Bowl, Saddle, Shape, alike, least_of, shape_of
from tests.refusals import Refusals
from tests.samples import (
    DOMES,
    FLATS,
    GREAT,
    GREAT_FLATS,
    GREAT_SADDLES,
    NO_TURNS,
    behind,
    bowls,
    is_tuple_of_wholes,
    is_whole,
    measure_of,
    move,
    row_of_turns,
    saddle_measures,
    saddles,
    small_turns,
    so_many,
    unit_form,
)

SAME = (1, 0, 0, 1)
GREAT_BOWLS = [(GREAT, 1, GREAT), (10 ** 199, -1, 10 ** 199 + 1), (GREAT, GREAT - 5, 3 * GREAT)]
OTHERS = list(DOMES + FLATS + GREAT_FLATS)


def long_turns():
    return [row_of_turns(seed, figures) for seed, figures in ((21, 5), (22, 30), (23, 95))]


def long_forms():
    return [move(form, turn) for form in ((2, 1, 3), (3, 0, 3), (1, 0, -61), (-3, 4, 11)) for turn in long_turns()]


FORMS = bowls(3) + saddles(3) + GREAT_BOWLS + long_forms() + [unit_form(number) for number in saddle_measures(100)]


class ShapeOf(unittest.TestCase):
    def test_kinds(self):
        self.assertEqual(Bowl.__bases__, (Shape,))
        self.assertEqual(Saddle.__bases__, (Shape,))
        for form in FORMS:
            told = shape_of(form)
            self.assertIs(type(told), Bowl if measure_of(form) < 0 else Saddle, form)
            self.assertIsInstance(told, Shape)

    def test_fields(self):
        for form in FORMS:
            told = shape_of(form)
            self.assertEqual(told.form, form)
            self.assertTrue(is_tuple_of_wholes(told.form, 3))
            self.assertEqual(told.measure, measure_of(form))
            self.assertTrue(is_whole(told.measure))

    def test_each_is_an_object_of_its_own(self):
        one, other = shape_of((1, 0, 1)), shape_of((1, 0, 2))
        self.assertEqual((one.form, other.form), ((1, 0, 1), (1, 0, 2)))
        self.assertEqual((one.least()[0], other.least()[0]), ((1, 0, 1), (1, 0, 2)))


class Least(unittest.TestCase):
    def test_least_form_and_turn(self):
        for form in FORMS:
            told = shape_of(form).least()
            self.assertTrue(type(told) is tuple and len(told) == 2)
            self.assertTrue(is_tuple_of_wholes(told[0], 3) and is_tuple_of_wholes(told[1], 4))
            self.assertEqual(told[1][0] * told[1][3] - told[1][1] * told[1][2], 1)
            self.assertEqual(move(form, told[1]), told[0])
            self.assertEqual(told[0], settled(form)[0] if measure_of(form) < 0 else round_of(form)[0])
            self.assertEqual(least_of(form), told[0])
            self.assertTrue(is_tuple_of_wholes(least_of(form), 3))

    def test_by_hand(self):
        self.assertEqual(least_of((5, 6, 2)), (1, 0, 1))
        self.assertEqual(least_of((1, -1, 1)), (1, 1, 1))
        self.assertEqual(least_of((1, 0, -2)), (-1, 2, 1))
        self.assertEqual(least_of((-1, 0, 3)), (-1, 2, 2))
        self.assertEqual(least_of((1, 0, -3)), (-2, 2, 1))

    def test_all_measures(self):
        for number in saddle_measures(4000):
            form = unit_form(number)
            least, turn = shape_of(form).least()
            self.assertEqual(move(form, turn), least)
            self.assertEqual(least, round_of(form)[0])


class Leaves(Refusals, unittest.TestCase):
    def test_by_moving(self):
        for form in bowls(2) + saddles(2) + GREAT_BOWLS:
            told = shape_of(form)
            for turn in small_turns(2):
                self.assertIs(told.leaves(turn), move(form, turn) == form, (form, turn))

    def test_long_numbers(self):
        for form in ((1, 1, -1), (3, 0, -3 * 61)) + tuple(long_forms()[6:]):
            told = shape_of(form)
            own = so_many(step_of(form), 60)
            self.assertIs(told.leaves(own), True)
            self.assertIs(told.leaves(behind(own, (1, 1, 0, 1))), False)

    def test_what_is_no_turn(self):
        for form in ((1, 0, 1), (1, 0, -2), (GREAT, 1, GREAT)):
            told = shape_of(form)
            for turn in NO_TURNS:
                self.assert_refused(NoTurn, {"turn": turn}, told.leaves, turn)
            self.assertIs(told.leaves(SAME), True)


class WayTo(unittest.TestCase):
    def assert_way(self, form, other):
        turn = shape_of(form).way_to(other)
        self.assertTrue(is_tuple_of_wholes(turn, 4), (form, other))
        self.assertEqual(turn[0] * turn[3] - turn[1] * turn[2], 1)
        self.assertEqual(move(form, turn), other)
        self.assertEqual(move(form, alike(form, other)), other)
        self.assertTrue(is_tuple_of_wholes(alike(form, other), 4))

    def assert_none(self, form, other):
        self.assertIsNone(shape_of(form).way_to(other), (form, other))

    def test_to_moved_forms(self):
        for form in bowls(2) + saddles(2):
            for turn in small_turns(1) + long_turns():
                self.assert_way(form, move(form, turn))
                self.assert_way(move(form, turn), form)

    def test_between_long_forms(self):
        forms = long_forms()
        for one in forms:
            for other in forms:
                if measure_of(one) == measure_of(other):
                    self.assert_way(one, other)
                else:
                    self.assert_none(one, other)

    def test_to_itself(self):
        for form in FORMS:
            self.assert_way(form, form)

    def test_no_way_between_different_least_forms(self):
        # Among these are a form and its opposite, and a form and the form with all signs changed.
        for one, other in (
            ((2, 1, 3), (2, -1, 3)),
            ((1, 0, 5), (2, 2, 3)),
            ((1, 1, 6), (2, 1, 3)),
            ((2, 0, 2), (1, 0, 4)),
            ((1, 0, -3), (-1, 0, 3)),
            ((1, 0, -10), (2, 0, -5)),
            ((3, 0, -3 * 5), (1, 0, -45)),
        ):
            self.assertEqual(measure_of(one), measure_of(other))
            for turn in [SAME] + long_turns():
                self.assert_none(one, move(other, turn))
                self.assertIsNone(alike(one, move(other, turn)))
                self.assertIsNone(alike(move(other, turn), one))

    def test_small_forms_by_search(self):
        turns = small_turns(3)
        for form in bowls(2) + saddles(2):
            reached = {move(form, turn) for turn in turns}
            told = shape_of(form)
            for other in bowls(3) + saddles(3):
                way = told.way_to(other)
                if way is not None:
                    self.assertEqual(move(form, way), other)
                else:
                    self.assertNotIn(other, reached)

    def test_to_other_measures_domes_and_flats(self):
        for form in ((1, 0, 1), (1, 1, 1), (2, 1, 3), (1, 0, -2), (1, 0, -61), (GREAT, 1, GREAT)):
            for other in OTHERS + list(GREAT_SADDLES) + [(1, 0, 7), (1, 0, -7), (GREAT, 3, GREAT)]:
                self.assert_none(form, other)

    def test_to_the_dome_of_the_same_measure(self):
        for a, b, c in bowls(3) + GREAT_BOWLS:
            self.assert_none((a, b, c), (-a, b, -c))
            self.assert_none((a, b, c), (-a, -b, -c))


class AskedBefore(unittest.TestCase):
    def questions(self, told):
        turn = row_of_turns(31, 9)
        return [
            told.least,
            lambda: told.leaves((1, 1, 0, 1)),
            lambda: told.leaves((-1, 0, 0, -1)),
            lambda: told.way_to(move(told.form, turn)),
            lambda: told.way_to((1, 2, 1)),
            lambda: told.way_to((1, 1, 41)),
            lambda: (told.form, told.measure),
        ]

    def test_what_is_told_does_not_hang_on_it(self):
        for form in ((5, 6, 2), (2, 1, 3), (1, 0, -61), (-3, 4, 11)) + tuple(long_forms()[::4]):
            fresh = [self.questions(shape_of(form))[place]() for place in range(7)]
            told = shape_of(form)
            forth = [question() for question in self.questions(told)]
            again = [question() for question in reversed(self.questions(told))]
            self.assertEqual(forth, fresh)
            self.assertEqual(again[::-1], fresh)

    def test_a_refused_question_changes_nothing(self):
        told = shape_of((1, 0, -61))
        ahead = [question() for question in self.questions(told)]
        with self.assertRaises(NoTurn):
            told.leaves((1, 1, 1, 1))
        self.assertEqual([question() for question in self.questions(told)], ahead)


class Alike(unittest.TestCase):
    def test_just_where_the_least_forms_are_the_same(self):
        forms = bowls(3) + saddles(3)
        for one in forms[::3]:
            for other in forms:
                turn = alike(one, other)
                self.assertEqual(turn is not None, least_of(one) == least_of(other), (one, other))
                if turn is not None:
                    self.assertEqual(move(one, turn), other)

    def test_a_bowl_and_a_saddle(self):
        self.assertIsNone(alike((1, 0, 1), (1, 0, -2)))
        self.assertIsNone(alike((1, 0, -2), (1, 0, 1)))


class Refused(Refusals, unittest.TestCase):
    def test_domes_and_flats(self):
        for form in OTHERS:
            for asked in (shape_of, least_of):
                self.assert_refused(NoShape, {"form": form}, asked, form)

    def test_too_great_a_measure(self):
        for form in GREAT_SADDLES:
            for asked in (shape_of, least_of):
                self.assert_refused(TooGreat, {"number": measure_of(form), "most": 4000}, asked, form)
        self.assertEqual(shape_of((1, 0, -1000)).measure, 4000)

    def test_a_bowl_is_never_too_great(self):
        for form in GREAT_BOWLS + [(1, 0, 10 ** 199), (1, 1, 1001)]:
            self.assertIs(type(shape_of(form)), Bowl)

    def test_alike_refuses_the_first_form_ahead_of_the_second(self):
        refused = [(NoShape, {"form": form}, form) for form in OTHERS]
        refused += [(TooGreat, {"number": measure_of(form), "most": 4000}, form) for form in GREAT_SADDLES]
        for refusal, fields, form in refused:
            for other in ((1, 0, 1), (1, 0, -2)):
                self.assert_refused(refusal, fields, alike, form, other)
                self.assert_refused(refusal, fields, alike, other, form)
            for second in refused:
                self.assert_refused(refusal, fields, alike, form, second[2])

    def test_equal_forms_are_refused_too(self):
        self.assert_refused(NoShape, {"form": (1, 2, 1)}, alike, (1, 2, 1), (1, 2, 1))
        self.assert_refused(TooGreat, {"number": 4001, "most": 4000}, alike, (1, 1, -1000), (1, 1, -1000))


if __name__ == "__main__":
    unittest.main()
