import unittest
from math import gcd, isqrt

from formcycle.errors import NoShape, NotLevel, NotOwn, NoTurn, TooGreat
from formcycle.saddles import after, eased, is_level, power_of, round_of, step_of
from tests.refusals import Refusals
from tests.samples import (
    DOMES,
    FLATS,
    GREAT,
    GREAT_FLATS,
    GREAT_SADDLES,
    NO_TURNS,
    behind,
    behind_by_the_words,
    bowls,
    is_tuple_of_wholes,
    is_whole,
    level_forms,
    measure_of,
    move,
    rings,
    row_of_turns,
    saddle_measures,
    saddles,
    small_turns,
    so_many,
    unit_form,
    with_signs_changed,
)

SAME = (1, 0, 0, 1)
MEASURES = saddle_measures(4000)
SOME_MEASURES = saddle_measures(130) + [1001, 1996, 3649, 3769, 3976, 3997, 4000]
ALL_ASKED = (is_level, after, eased, round_of, step_of)
NO_SADDLES = DOMES + FLATS + GREAT_FLATS + tuple(bowls(2)) + ((GREAT, 1, GREAT),)


def long_turns():
    return [row_of_turns(seed, figures) for seed, figures in ((11, 5), (12, 30), (13, 96), (14, 96))]


def least_pair(number):
    """The least t and u by another way than the program's: the chain of the root of n / 4, or of (1 + root) / 2."""
    if number % 4 == 0:
        x, y = least_of_chain(number // 4, 0, 1)
        return 2 * x, y
    return least_of_chain(number, 1, 2)


def least_of_chain(number, first, second):
    far = isqrt(number)
    p, q = first, second
    tops, bottoms = (-first, second), (1, 0)
    sign = 1
    while True:
        part = (far + p) // q
        tops = (tops[1], part * tops[1] + tops[0])
        bottoms = (bottoms[1], part * bottoms[1] + bottoms[0])
        p = part * q - p
        q = (number - p * p) // q
        sign = -sign
        if q == second:
            break
    x, y = tops[1], bottoms[1]
    if sign == -1:
        return (x * x + number * y * y) // second, 2 * x * y // second
    return x, y


def step_by_the_words(form):
    a, b, c = form
    m = gcd(a, b, c)
    t, u = least_pair(measure_of(form) // (m * m))
    return ((t - b * u // m) // 2, -c * u // m, a * u // m, (t + b * u // m) // 2)


class IsLevel(unittest.TestCase):
    def test_edges(self):
        # The measure of these is 21, so that far is 4, then 8 with far 2, then 5 with far 2.
        self.assertIs(is_level((1, 3, -3)), True)
        self.assertIs(is_level((-3, 3, 1)), True)
        self.assertIs(is_level((3, 3, -1)), True)
        self.assertIs(is_level((1, -3, -3)), False)
        self.assertIs(is_level((1, 1, -5)), False)
        self.assertIs(is_level((5, 1, -1)), False)
        self.assertIs(is_level((1, 5, 1)), False)
        self.assertIs(is_level((-1, 5, -1)), False)
        self.assertIs(is_level((1, 2, -1)), True)
        self.assertIs(is_level((-1, 2, 1)), True)
        self.assertIs(is_level((1, 0, -2)), False)
        self.assertIs(is_level((2, 0, -1)), False)
        self.assertIs(is_level((2, 4, 1)), False)
        self.assertIs(is_level((1, 1, -1)), True)
        self.assertIs(is_level((-1, 1, 1)), True)
        self.assertIs(is_level((1, -1, -1)), False)
        self.assertIs(is_level((1, 3, 1)), False)

    def test_twice_a_at_both_of_its_edges(self):
        # Of measure 33 far is 5: with b = 3 it holds from 4 to 8, with b = 5 from 2 to 10.
        for a, b, c, level in ((1, 3, -6, False), (2, 3, -3, True), (3, 3, -2, True), (6, 3, -1, False)):
            self.assertIs(is_level((a, b, c)), level)
            self.assertIs(is_level((-a, b, -c)), level)
        # Of measure 20 far is 4: with b = 2 it holds from 4 to 6, with b = 4 from 2 to 8.
        for a, b, c, level in ((1, 2, -4, False), (2, 2, -2, True), (4, 2, -1, False), (1, 4, -1, True)):
            self.assertIs(is_level((a, b, c)), level)
            self.assertIs(is_level((-a, b, -c)), level)
        # Of measure 29 far is 5: with b = 3 twice a is just far - b, which isn't enough.
        for a, b, c, level in ((1, 3, -5, False), (5, 3, -1, False), (1, 5, -1, True)):
            self.assertIs(is_level((a, b, c)), level)
            self.assertIs(is_level((-a, b, -c)), level)

    def test_by_the_words_of_the_document(self):
        for form in saddles(9):
            self.assertIs(is_level(form), form in level_forms(measure_of(form)), form)

    def test_all_level_forms(self):
        for number in SOME_MEASURES:
            for a, b, c in level_forms(number):
                self.assertIs(is_level((a, b, c)), True)
                self.assertIs(is_level((a, -b, c)), False)

    def test_long_numbers(self):
        for turn in long_turns():
            self.assertIs(is_level(move((1, 2, -1), turn)), False)


class After(unittest.TestCase):
    def test_by_hand(self):
        self.assertEqual(after((1, 1, -1)), (-1, 1, 1))
        self.assertEqual(after((-1, 1, 1)), (1, 1, -1))
        self.assertEqual(after((1, 3, -3)), (-3, 3, 1))
        self.assertEqual(after((2, 4, -3)), (-3, 2, 3))
        self.assertEqual(after((-3, 2, 3)), (3, 4, -2))

    def test_by_the_words_of_the_document(self):
        for number in SOME_MEASURES:
            level = level_forms(number)
            told = [after(form) for form in level]
            self.assertEqual(told, [behind_by_the_words(form) for form in level])
            self.assertTrue(all(is_tuple_of_wholes(form, 3) for form in told))
            self.assertEqual(sorted(told), sorted(level))

    def test_the_turn_of_the_document_moves_there(self):
        for number in saddle_measures(130):
            for a, b, c in level_forms(number):
                d = after((a, b, c))[1]
                self.assertEqual((b + d) % (2 * c), 0)
                self.assertEqual(move((a, b, c), (0, -1, 1, (b + d) // (2 * c))), after((a, b, c)))


class Eased(unittest.TestCase):
    def assert_eased(self, form):
        told = eased(form)
        self.assertTrue(type(told) is tuple and len(told) == 2)
        self.assertTrue(is_tuple_of_wholes(told[0], 3) and is_tuple_of_wholes(told[1], 4))
        p, q, r, s = told[1]
        self.assertEqual(p * s - q * r, 1, form)
        self.assertEqual(move(form, told[1]), told[0], form)
        self.assertIn(told[0], level_forms(measure_of(form)), form)
        self.assertIn(told[0], round_of(form))

    def test_small_saddles(self):
        for form in saddles(6):
            self.assert_eased(form)

    def test_level_forms(self):
        for number in saddle_measures(130):
            for form in level_forms(number):
                self.assert_eased(form)

    def test_long_numbers(self):
        for number in SOME_MEASURES:
            for turn in long_turns():
                self.assert_eased(move(unit_form(number), turn))

    def test_the_longest_numbers(self):
        lengths = [len(str(abs(move((1, 0, -999), turn)[0]))) for turn in long_turns()]
        self.assertTrue(180 < max(lengths) <= 202, lengths)
        for often in (10 ** 98 + 1, -10 ** 98, GREAT):
            for form in ((1, 0, -1000), (7, 3, -141), (-2, 5, 496)):
                self.assert_eased(move(form, (1, often, 0, 1)))
                self.assert_eased(move(form, (1, 0, often, 1)))
                self.assert_eased(move(form, (often + 1, often, 1, 1)))


class RoundOf(unittest.TestCase):
    def test_by_hand(self):
        self.assertEqual(round_of((1, 0, -2)), [(-1, 2, 1), (1, 2, -1)])
        self.assertEqual(round_of((1, 0, -3)), [(-2, 2, 1), (1, 2, -2)])
        self.assertEqual(round_of((-1, 0, 3)), [(-1, 2, 2), (2, 2, -1)])
        self.assertEqual(round_of((2, 0, -5)), [(-3, 2, 3), (3, 4, -2), (-2, 4, 3), (3, 2, -3), (-3, 4, 2), (2, 4, -3)])

    def test_rings_of_level_forms(self):
        for number in SOME_MEASURES:
            for ring in rings(number):
                self.assertEqual(ring[0], min(ring))
                for form in ring[:: 1 + len(ring) // 9]:
                    self.assertEqual(round_of(form), ring)

    def test_begins_with_the_least_and_has_each_form_once(self):
        for form in saddles(6):
            told = round_of(form)
            self.assertIs(type(told), list)
            self.assertEqual(told[0], min(told))
            self.assertEqual(len(told), len(set(told)))
            self.assertTrue(all(is_tuple_of_wholes(one, 3) for one in told))
            for ahead, one in zip(told, told[1:] + told[:1]):
                self.assertEqual(behind_by_the_words(ahead), one)

    def test_saddles_that_are_moved_to_one_another_have_the_same_round(self):
        for number in SOME_MEASURES:
            for ring in rings(number):
                for turn in long_turns() + small_turns(1)[::4]:
                    self.assertEqual(round_of(move(ring[-1], turn)), ring)

    def test_all_measures(self):
        for number in MEASURES:
            form = unit_form(number)
            self.assertEqual(round_of(move(form, (7, 3, 2, 1))), round_of(form))

    def test_a_list_that_was_told_is_the_askers_own(self):
        told = round_of((2, 0, -5))
        kept = list(told)
        told.reverse()
        told.pop()
        self.assertEqual(round_of((2, 0, -5)), kept)
        again = round_of((2, 0, -5))
        round_of((2, 0, -5)).clear()
        self.assertEqual(again, kept)


class StepOf(unittest.TestCase):
    def test_by_hand(self):
        self.assertEqual(step_of((1, 1, -1)), (1, 1, 1, 2))
        self.assertEqual(step_of((1, 0, -2)), (3, 4, 2, 3))
        self.assertEqual(step_of((-1, 0, 2)), (3, -4, -2, 3))
        self.assertEqual(step_of((3, 0, -6)), (3, 4, 2, 3))
        self.assertEqual(step_of((1, 0, -61)), (1766319049, 61 * 226153980, 226153980, 1766319049))

    def test_the_pair_of_the_tests_is_the_least(self):
        for number in saddle_measures(400):
            t, u = least_pair(number)
            self.assertEqual(t * t - number * u * u, 4)
            for less in range(1, min(u, 3000)):
                self.assertTrue(isqrt(number * less * less + 4) ** 2 != number * less * less + 4, (number, less))

    def assert_step(self, form):
        told = step_of(form)
        self.assertTrue(is_tuple_of_wholes(told, 4))
        self.assertEqual(told, step_by_the_words(form), form)
        self.assertEqual(told[0] * told[3] - told[1] * told[2], 1)
        self.assertEqual(move(form, told), form)

    def test_all_measures(self):
        for number in MEASURES:
            self.assert_step(unit_form(number))

    def test_other_forms(self):
        for number in SOME_MEASURES:
            for ring in rings(number):
                self.assert_step(ring[0])
                self.assert_step(ring[-1])
        for form in saddles(5):
            self.assert_step(form)

    def test_greater_contents(self):
        for a, b, c in ((1, 1, -1), (1, 0, -2), (-1, 3, 1), (2, 3, -4), (-3, 1, 5)):
            for m in range(2, 1 + isqrt(4000 // measure_of((a, b, c)))):
                self.assertEqual(step_of((m * a, m * b, m * c)), step_of((a, b, c)))
                self.assert_step((m * a, m * b, m * c))
                self.assert_step((-m * a, -m * b, -m * c))

    def test_long_numbers(self):
        for number in SOME_MEASURES[::3] + [3769, 4000]:
            for turn in long_turns():
                self.assert_step(move(unit_form(number), turn))


class PowerOf(unittest.TestCase):
    def assert_power(self, form, count):
        turn = so_many(step_by_the_words(form), count)
        for sign, own in ((1, turn), (-1, with_signs_changed(turn))):
            told = power_of(form, own)
            self.assertTrue(is_tuple_of_wholes(told, 2))
            self.assertEqual(told, (sign, count), form)

    def test_small_counts(self):
        for form in saddles(3):
            for count in range(-9, 10):
                self.assert_power(form, count)

    def test_at_nought(self):
        for form in ((1, 1, -1), (-5, 0, 10), move((1, 0, -61), long_turns()[2])):
            self.assertEqual(power_of(form, SAME), (1, 0))
            self.assertEqual(power_of(form, (-1, 0, 0, -1)), (-1, 0))

    def test_great_counts(self):
        for form in ((1, 1, -1), (-1, 1, 1), (1, 3, 1), (20, 20, -20), (1, 0, -2), (-2, 0, 4)):
            for count in (63, 64, 65, 1023, 1024, 1025, 2047, 2500):
                self.assert_power(form, count)
                self.assert_power(form, -count)
        for count in (4095, 4096, 4097, 4700, 4780, 50000):
            self.assert_power((1, 1, -1), count)
            self.assert_power((1, 1, -1), -count)

    def test_long_numbers(self):
        for number in (5, 8, 12, 61, 1001, 3769, 4000):
            for turn in long_turns():
                for count in (-17, -2, -1, 1, 2, 16):
                    self.assert_power(move(unit_form(number), turn), count)

    def test_greater_contents(self):
        for form in ((2, 2, -2), (-6, 0, 12), (15, 5, -25)):
            for count in range(-20, 21):
                self.assert_power(form, count)

    def test_all_turns_that_move_a_small_saddle_to_itself(self):
        turns = small_turns(5)
        for form in saddles(2):
            for turn in [turn for turn in turns if move(form, turn) == form]:
                sign, count = power_of(form, turn)
                self.assertTrue(is_whole(sign) and is_whole(count))
                own = so_many(step_by_the_words(form), count)
                self.assertEqual(own if sign == 1 else with_signs_changed(own), turn)

    def test_turns_put_together(self):
        form = (3, 7, -5)
        step = step_of(form)
        self.assertEqual(power_of(form, behind(so_many(step, 70), so_many(step, -75))), (1, -5))


class Refused(Refusals, unittest.TestCase):
    def test_what_is_no_saddle(self):
        for form in NO_SADDLES:
            for asked in ALL_ASKED:
                self.assert_refused(NoShape, {"form": form}, asked, form)
            for turn in (SAME, NO_TURNS[0]):
                self.assert_refused(NoShape, {"form": form}, power_of, form, turn)

    def test_too_great_a_measure(self):
        for form in GREAT_SADDLES:
            self.assertGreater(measure_of(form), 4000)
            fields = {"number": measure_of(form), "most": 4000}
            for asked in ALL_ASKED:
                self.assert_refused(TooGreat, fields, asked, form)
            for turn in (SAME, NO_TURNS[0], (1, 1, 0, 1)):
                self.assert_refused(TooGreat, fields, power_of, form, turn)

    def test_the_greatest_measure_is_not_refused(self):
        for form in ((1, 0, -1000), (10, 0, -100), (1, 62, -39)):
            self.assertEqual(measure_of(form), 4000)
        self.assertIs(is_level((1, 0, -1000)), False)
        self.assertIs(is_level((1, 62, -39)), True)
        self.assertIn(eased((1, 0, -1000))[0], round_of((1, 0, -1000)))
        self.assertEqual(power_of((10, 0, -100), step_of((10, 0, -100))), (1, 1))

    def test_after_of_what_is_not_level(self):
        for form in saddles(4) + [move((1, 2, -1), turn) for turn in long_turns()]:
            if form not in level_forms(measure_of(form)):
                self.assert_refused(NotLevel, {"form": form}, after, form)

    def test_power_of_what_is_no_turn(self):
        for form in ((1, 1, -1), (6, 0, -3), (1, 0, -1000)):
            for turn in NO_TURNS:
                self.assert_refused(NoTurn, {"turn": turn}, power_of, form, turn)

    def test_what_is_no_turn_is_refused_even_where_it_would_lead_to_the_form(self):
        # These move the form to itself by the sums, but p s - q r is -1.
        for form, turn in (((1, 0, -2), (1, 0, 0, -1)), ((1, 0, -2), (-1, 0, 0, 1))):
            self.assertEqual(move(form, turn), form)
            self.assert_refused(NoTurn, {"turn": turn}, power_of, form, turn)

    def test_power_of_a_turn_that_is_not_own(self):
        long_number = 10 ** 1999 + 1
        for form in ((1, 1, -1), (6, 0, -3), (1, 0, -1000)):
            for turn in ((1, 1, 0, 1), (0, -1, 1, 0), (1, 0, -long_number, 1), (long_number + 1, long_number, 1, 1)):
                self.assert_refused(NotOwn, {"turn": turn}, power_of, form, turn)

    def test_a_refused_call_changes_nothing(self):
        ahead = (round_of((2, 0, -5)), step_of((2, 0, -5)), eased((2, 0, -5)))
        self.assert_refused(NoShape, {"form": (1, 2, 1)}, round_of, (1, 2, 1))
        self.assert_refused(NotLevel, {"form": (2, 0, -5)}, after, (2, 0, -5))
        self.assert_refused(NotOwn, {"turn": (1, 1, 0, 1)}, power_of, (2, 0, -5), (1, 1, 0, 1))
        self.assertEqual((round_of((2, 0, -5)), step_of((2, 0, -5)), eased((2, 0, -5))), ahead)


if __name__ == "__main__":
    unittest.main()
