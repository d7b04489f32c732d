import unittest
from itertools import combinations
from math import gcd, isqrt

from formcycle.answers import all_answers, heads, whence
from formcycle.bowls import own_turns
from formcycle.errors import NoAnswer, NoShape, Nought, TooGreat
from formcycle.saddles import step_of
from formcycle.shapes import least_of
from tests.refusals import Refusals
from tests.samples import (
    DOMES,
    FLATS,
    GREAT,
    GREAT_FLATS,
    GREAT_SADDLES,
    bowls,
    home,
    is_tuple_of_wholes,
    is_whole,
    measure_of,
    move,
    row_of_turns,
    saddles,
    so_many,
    taken,
    with_signs_changed,
)

SAME = (1, 0, 0, 1)
NUMBERS = [number for number in range(-400, 401) if number != 0]
SQUARES_WITHIN = [4, -4, 8, 9, -9, 12, 36, -36, 72, 100, 144, -144, 225, 288, -288, 324, 360, 396, 400, -400]
# Plain and not plain; with two, four and six own turns.
SOME_BOWLS = (
    (1, 0, 1), (1, 1, 1), (1, 0, 2), (1, 1, 2), (2, 1, 3), (2, -1, 3), (2, 2, 3), (5, 6, 2), (7, 5, 1), (13, -21, 9),
    (2, 0, 2), (3, 3, 3), (4, 2, 6), (1, 0, 36), (1, 1, 41), (9, 0, 16), (12, 12, 15), (6, 0, 6), (1, 0, 1000),
)
SOME_SADDLES = (
    (1, 1, -1), (-1, 1, 1), (1, 0, -2), (1, 0, -3), (-1, 0, 3), (2, 0, -5), (3, 2, -3), (1, 0, -61), (7, 3, -5),
    (2, 2, -2), (3, 0, -6), (-5, 5, 5), (4, 0, -8), (1, 0, -72), (9, 0, -8), (6, 6, -3), (1, 31, -10), (1, 0, -1000),
    (20, 0, -50),
)
FORMS = SOME_BOWLS + SOME_SADDLES


def long_turns():
    return [row_of_turns(seed, figures) for seed, figures in ((61, 4), (62, 30), (63, 94))]


def times_point(turn, point):
    p, q, r, s = turn
    return (p * point[0] + q * point[1], r * point[0] + s * point[1])


def turn_between(form, one, other):
    """The turn that moves the form to itself and leads one answer for a number to another one, if there is such.

    It is (t - b u) / 2, - c u, a u, (t + b u) / 2 for some t and u, as of a step; here number times t, and number
    times u, are reckoned from the two points, and all four must be whole.
    """
    a, b, c = form
    (x, y), (z, w) = one, other
    number = taken(form, one)
    t = z * (2 * a * x + b * y) + w * (b * x + 2 * c * y)
    u = x * w - z * y
    parts = ((t - b * u, 2 * number), (-c * u, number), (a * u, number), (t + b * u, 2 * number))
    if any(top % bottom != 0 for top, bottom in parts):
        return None
    turn = tuple(top // bottom for top, bottom in parts)
    assert move(form, turn) == form and times_point(turn, one) == other
    return turn


def answers_around(form, most):
    """For each number within the bound, other than nought, the answers among the points around the middle."""
    found = {number: [] for number in NUMBERS}
    for x in range(-most, most + 1):
        for y in range(-most, most + 1):
            number = taken(form, (x, y))
            if number in found:
                found[number].append((x, y))
    return found


def feet(form, first):
    """The bowls or saddles (first, b, c) of the form's measure with b from 0 to 2 |first| - 1."""
    number = measure_of(form)
    if number < 0 and first < 0:
        return []
    middles = [b for b in range(2 * abs(first)) if (b * b - number) % (4 * first) == 0]
    return [(first, b, (b * b - number) // (4 * first)) for b in middles]


def all_by_going_through(form, number):
    """All answers of a bowl: a x x at most, and so on, bounds what x and y can be."""
    a, b, c = form
    found = []
    far_x = isqrt(4 * c * number // -measure_of(form))
    far_y = isqrt(4 * a * number // -measure_of(form))
    for x in range(-far_x - 1, far_x + 2):
        for y in range(-far_y - 1, far_y + 2):
            if taken(form, (x, y)) == number:
                found.append((x, y))
    return found


class Heads(unittest.TestCase):
    def assert_heads(self, form, number):
        told = heads(form, number)
        self.assertIs(type(told), list)
        self.assertEqual(told, sorted(told), (form, number))
        for head in told:
            self.assertTrue(is_tuple_of_wholes(head, 2))
            self.assertEqual(taken(form, head), number, (form, number))
        for one, other in combinations(told, 2):
            self.assertIsNone(turn_between(form, one, other), (form, one, other))
        return told

    def assert_just_one_head(self, form, told, answer):
        found = [head for head in told if turn_between(form, head, answer) is not None]
        self.assertEqual(len(found), 1, (form, answer, told))

    def test_by_hand(self):
        self.assertEqual(len(heads((1, 0, 1), 5)), 2)
        self.assertEqual(len(heads((1, 0, 1), 25)), 3)
        self.assertEqual(len(heads((1, 0, 1), 1)), 1)
        self.assertEqual(len(heads((1, 0, 2), 1)), 1)
        self.assertEqual(len(heads((1, 0, 2), 3)), 2)
        self.assertEqual(len(heads((1, 0, -2), 7)), 2)
        self.assertEqual(len(heads((1, 0, -2), 1)), 1)
        self.assertEqual(len(heads((1, 0, -2), -1)), 1)

    def test_numbers_with_no_answer(self):
        for form, numbers in (
            ((1, 0, 1), (3, 6, 7, 12, 399, -1, -5, -400)),
            ((1, 1, 1), (2, 5, 6, 398, -3)),
            ((2, 0, 2), (1, 3, 5, 6)),
            ((1, 0, -3), (-1, 2, 3, 5, -4)),
            ((3, 0, -6), (1, 2, 4, 5, -1, 400)),
            ((1, 0, -1000), (-1, 2, -3, 399)),
        ):
            for number in numbers:
                self.assertEqual(heads(form, number), [], (form, number))

    def test_small_points_for_all_numbers(self):
        for form in FORMS:
            for number, answers in answers_around(form, 9).items():
                told = self.assert_heads(form, number)
                for answer in answers:
                    self.assert_just_one_head(form, told, answer)

    def test_further_points(self):
        for form in FORMS[::3]:
            for number, answers in answers_around(form, 40).items():
                if answers:
                    told = heads(form, number)
                    for answer in answers:
                        self.assert_just_one_head(form, told, answer)

    def test_all_small_forms(self):
        for form in bowls(3)[::3] + saddles(3)[::3]:
            around = answers_around(form, 6)
            for number in list(range(-12, 0)) + list(range(1, 13)) + SQUARES_WITHIN:
                told = self.assert_heads(form, number)
                for answer in around[number]:
                    self.assert_just_one_head(form, told, answer)

    def test_square_divisors(self):
        for form in FORMS:
            for number in SQUARES_WITHIN:
                told = self.assert_heads(form, number)
                for g in range(2, 21):
                    if number % (g * g) == 0:
                        for x, y in heads(form, number // (g * g)):
                            self.assert_just_one_head(form, told, (g * x, g * y))
                divisors = {gcd(*head) for head in told}
                self.assertTrue(all(number % (g * g) == 0 for g in divisors))

    def test_divisors_of_heads(self):
        self.assertEqual(sorted(gcd(*head) for head in heads((1, 0, 1), 100)), [2, 2, 10])
        self.assertEqual(sorted(gcd(*head) for head in heads((1, 0, -2), 49)), [1, 1, 7])

    def test_as_many_as_the_middle_numbers_of_point_25(self):
        for form in FORMS:
            for number in (1, -1, 7, -15) + tuple(SQUARES_WITHIN):
                told = [gcd(*head) for head in heads(form, number)]
                for g in range(1, 21):
                    count = 0
                    if number % (g * g) == 0:
                        count = len([foot for foot in feet(form, number // (g * g)) if least_of(foot) == least_of(form)])
                    self.assertEqual(told.count(g), count, (form, number, g))

    def test_long_numbers(self):
        for form in FORMS[::2]:
            around = answers_around(form, 4)
            for turn in long_turns():
                moved = move(form, turn)
                for number in [1, -1, 2, 7, -23] + SQUARES_WITHIN[::2]:
                    told = self.assert_heads(moved, number)
                    self.assertEqual(len(told), len(heads(form, number)), (form, number))
                    for answer in around[number]:
                        self.assert_just_one_head(moved, told, times_point(home(turn), answer))

    def test_bowls_of_a_great_measure(self):
        self.assertEqual(heads((GREAT, 1, GREAT + 1), 400), [])
        for form in ((3, 1, GREAT), (3, 0, 10 ** 199), (3, -1, GREAT)):
            for turn in [SAME, (1, 10 ** 50, 0, 1), (0, -1, 1, 0), (5, 3, -2, -1)]:
                moved = move(form, turn)
                for number in (3, 12, 300):
                    told = self.assert_heads(moved, number)
                    self.assertEqual(len(told), 1)
                    self.assert_just_one_head(moved, told, times_point(home(turn), (isqrt(number // 3), 0)))
                self.assertEqual([heads(moved, number) for number in (1, 2, 4, 6, -3, 400)], [[]] * 6)

    def test_the_told_list_is_the_askers_own(self):
        for form, number in (((1, 0, 1), 25), ((1, 0, -2), 49), ((1, 0, 1), 3)):
            told = heads(form, number)
            kept = list(told)
            other = heads(form, number)
            other.append((0, 0))
            other.reverse()
            whence((1, 0, 1), 25, (3, 4))
            self.assertEqual(told, kept)
            self.assertEqual(heads(form, number), kept)


class Whence(unittest.TestCase):
    def assert_whence(self, form, number, place, turn, answer):
        told = whence(form, number, answer)
        self.assertTrue(type(told) is tuple and len(told) == 2)
        self.assertTrue(is_whole(told[0]) and is_tuple_of_wholes(told[1], 4))
        self.assertEqual(told, (place, turn), (form, number, answer))

    def test_of_heads(self):
        for form in FORMS:
            for number in [1, -1, 5, 7, -7, 23] + SQUARES_WITHIN:
                for place, head in enumerate(heads(form, number)):
                    self.assert_whence(form, number, place, SAME, head)
                    minus = (-head[0], -head[1])
                    self.assert_whence(form, number, place, (-1, 0, 0, -1), minus)

    def test_of_heads_led_by_all_own_turns_of_bowls(self):
        counts = set()
        for form in SOME_BOWLS + tuple(move(form, turn) for form in SOME_BOWLS[:4] for turn in long_turns()):
            turns = own_turns(form)
            counts.add(len(turns))
            for number in [1, 3, 5, 7, 91] + [square for square in SQUARES_WITHIN if square > 0]:
                for place, head in enumerate(heads(form, number)):
                    for turn in turns:
                        self.assert_whence(form, number, place, turn, times_point(turn, head))
        self.assertEqual(counts, {2, 4, 6})

    def test_of_heads_led_by_the_step_many_times(self):
        for form in SOME_SADDLES + tuple(move(form, long_turns()[2]) for form in SOME_SADDLES[::5]):
            step = step_of(form)
            for number in [1, -1, 7, -23] + SQUARES_WITHIN[::3]:
                for place, head in enumerate(heads(form, number)):
                    for count in (-13, -2, -1, 1, 2, 13):
                        turn = so_many(step, count)
                        self.assert_whence(form, number, place, turn, times_point(turn, head))
                        turn = with_signs_changed(turn)
                        self.assert_whence(form, number, place, turn, times_point(turn, head))

    def test_of_the_longest_points(self):
        for form, number, count in (((1, 1, -1), 5, 4700), ((1, 0, -2), 7, 2600), ((1, 0, -991), 9, 30)):
            step = step_of(form)
            for place, head in enumerate(heads(form, number)):
                for turn in (so_many(step, count), so_many(step, -count)):
                    answer = times_point(turn, head)
                    self.assertLess(max(abs(answer[0]), abs(answer[1])), 10 ** 2000)
                    self.assert_whence(form, number, place, turn, answer)
                    self.assert_whence(form, number, place, with_signs_changed(turn), (-answer[0], -answer[1]))

    def test_of_small_answers(self):
        for form in FORMS:
            for number, answers in answers_around(form, 6).items():
                for answer in answers:
                    place, turn = whence(form, number, answer)
                    self.assertEqual(turn, turn_between(form, heads(form, number)[place], answer))
                    self.assertEqual(move(form, turn), form)


class AllAnswers(unittest.TestCase):
    def assert_all(self, form, number, expected):
        told = all_answers(form, number)
        self.assertIs(type(told), list)
        self.assertTrue(all(is_tuple_of_wholes(point, 2) for point in told))
        self.assertEqual(told, expected, (form, number))

    def test_by_hand(self):
        self.assert_all((1, 0, 1), 1, [(-1, 0), (0, -1), (0, 1), (1, 0)])
        self.assert_all((1, 1, 1), 1, [(-1, 0), (-1, 1), (0, -1), (0, 1), (1, -1), (1, 0)])
        self.assert_all((1, 0, 2), 3, [(-1, -1), (-1, 1), (1, -1), (1, 1)])
        self.assert_all((2, 1, 3), 2, [(-1, 0), (1, 0)])
        self.assertEqual(len(all_answers((1, 0, 1), 325)), 24)

    def test_by_going_through_points(self):
        for form in SOME_BOWLS:
            for number in range(1, 401):
                self.assert_all(form, number, all_by_going_through(form, number))

    def test_all_small_bowls(self):
        for form in bowls(3):
            for number in (1, 2, 3, 4, 7, 9, 12, 13, 36, 49, 91, 100, 144, 399, 400):
                self.assert_all(form, number, all_by_going_through(form, number))

    def test_long_numbers(self):
        for form in SOME_BOWLS:
            for turn in long_turns():
                for number in (1, 3, 7, 36, 91, 325, 400):
                    points = all_by_going_through(form, number)
                    self.assert_all(move(form, turn), number, sorted(times_point(home(turn), one) for one in points))
        self.assert_all((3, 1, GREAT), 300, [(-10, 0), (10, 0)])
        self.assert_all((GREAT, 1, GREAT + 1), 400, [])

    def test_nought_and_below(self):
        for form in SOME_BOWLS + ((GREAT, 1, GREAT), (3, 1, GREAT)):
            self.assert_all(form, 0, [(0, 0)])
            for number in (-1, -2, -3, -36, -399, -400):
                self.assert_all(form, number, [])

    def test_the_told_list_is_the_askers_own(self):
        for number in (0, 25, 3, -1):
            told = all_answers((1, 0, 1), number)
            kept = list(told)
            other = all_answers((1, 0, 1), number)
            other.append((7, 7))
            other.reverse()
            all_answers((1, 0, 1), 50)
            self.assertEqual(told, kept)
            self.assertEqual(all_answers((1, 0, 1), number), kept)


class Refused(Refusals, unittest.TestCase):
    numbers = (1, -1, 0, 400, -400, 401, -401, 10 ** 1999, -10 ** 1999)
    beyond = (401, -401, 1000, -1000, 10 ** 1999, -10 ** 1999)

    def assert_both_refuse(self, refusal, fields, form, number):
        self.assert_refused(refusal, fields, heads, form, number)
        for point in ((1, 0), (0, 0), (GREAT, 10 ** 1999)):
            self.assert_refused(refusal, fields, whence, form, number, point)

    def test_no_shape_comes_first(self):
        for form in DOMES + FLATS + GREAT_FLATS:
            for number in self.numbers:
                self.assert_both_refuse(NoShape, {"form": form}, form, number)

    def test_then_too_great_a_measure(self):
        for form in GREAT_SADDLES:
            for number in self.numbers:
                self.assert_both_refuse(TooGreat, {"number": measure_of(form), "most": 4000}, form, number)

    def test_then_nought(self):
        for form in FORMS + ((GREAT, 1, GREAT),):
            self.assert_both_refuse(Nought, {}, form, 0)

    def test_then_too_great_a_number(self):
        for form in FORMS + ((GREAT, 1, GREAT),):
            for number in self.beyond:
                self.assert_both_refuse(TooGreat, {"number": number, "most": 400}, form, number)
        # The point is an answer, but for a number beyond the bound.
        self.assert_refused(TooGreat, {"number": 441, "most": 400}, whence, (1, 0, 1), 441, (21, 0))
        self.assert_refused(TooGreat, {"number": -450, "most": 400}, whence, (1, 0, -2), -450, (0, 15))

    def test_the_greatest_numbers_are_not_refused(self):
        self.assertEqual(whence((1, 0, 1), 400, heads((1, 0, 1), 400)[0]), (0, SAME))
        self.assertEqual(whence((1, 0, -2), -400, heads((1, 0, -2), -400)[0]), (0, SAME))
        self.assertEqual(heads((1, 0, 1), -400), [])

    def test_then_what_is_no_answer(self):
        for form in FORMS:
            for number in (1, -1, 2, 12, 400, -400):
                for point in ((0, 0), (1, 0), (0, -1), (3, 5), (-20, 1), (GREAT, 1), (10 ** 1999, -10 ** 1999)):
                    if taken(form, point) != number:
                        self.assert_refused(NoAnswer, {"point": point}, whence, form, number, point)

    def test_all_answers_of_what_is_no_bowl(self):
        for form in DOMES + FLATS + GREAT_FLATS + GREAT_SADDLES + SOME_SADDLES:
            for number in self.numbers:
                self.assert_refused(NoShape, {"form": form}, all_answers, form, number)

    def test_all_answers_for_too_great_a_number(self):
        for form in SOME_BOWLS + ((GREAT, 1, GREAT),):
            for number in self.beyond:
                self.assert_refused(TooGreat, {"number": number, "most": 400}, all_answers, form, number)

    def test_a_refused_call_changes_nothing(self):
        def told():
            return (heads((1, 0, -2), 7), whence((1, 0, 1), 25, (3, 4)), all_answers((1, 0, 1), 25))

        ahead = told()
        for asked, handed in (
            (heads, ((1, 0, 1), 0)), (heads, ((1, 0, 1), 401)), (whence, ((1, 0, 1), 25, (3, 5))),
            (all_answers, ((1, 0, -2), 7)), (all_answers, ((1, 0, 1), -401)),
        ):
            with self.assertRaises((NoShape, Nought, TooGreat, NoAnswer)):
                asked(*handed)
            self.assertEqual(told(), ahead)


if __name__ == "__main__":
    unittest.main()
