import unittest

from formcycle.bowls import is_least, own_turns, settled
from formcycle.errors import NoShape
from tests.refusals import Refusals
from tests.samples import (
    DOMES,
    FLATS,
    GREAT,
    GREAT_FLATS,
    GREAT_SADDLES,
    behind,
    bowls,
    is_tuple_of_wholes,
    least_by_the_words,
    measure_of,
    move,
    row_of_turns,
    saddles,
    small_turns,
)

SAME = (1, 0, 0, 1)
MINUS = (-1, 0, 0, -1)

LEAST = (
    (1, 0, 1),
    (1, 1, 1),
    (1, 0, 2),
    (2, 1, 2),
    (2, 2, 2),
    (2, 2, 3),
    (2, -1, 3),
    (2, 1, 3),
    (3, -2, 4),
    (7, 0, 7),
    (9, 9, 9),
    (5, 5, 8),
    (GREAT, 0, GREAT),
    (GREAT, GREAT, GREAT),
    (GREAT, GREAT, GREAT + 1),
    (GREAT, 1 - GREAT, GREAT + 1),
    (GREAT, GREAT - 1, GREAT),
    (1, 0, 10 ** 199),
    (1, 1, 10 ** 199),
    (10 ** 199, -1, 10 ** 199 + 1),
)

NOT_LEAST = (
    (1, -1, 1),
    (2, -2, 3),
    (2, -1, 2),
    (2, 3, 4),
    (2, -3, 4),
    (2, 0, 1),
    (3, 1, 2),
    (3, -1, 2),
    (2, 2, 1),
    (GREAT, -GREAT, GREAT),
    (GREAT, -GREAT, GREAT + 1),
    (GREAT, -1, GREAT),
    (GREAT, GREAT + 1, GREAT + 1),
    (GREAT, -GREAT - 1, GREAT + 1),
    (GREAT + 1, 0, GREAT),
)


def long_turns():
    return [row_of_turns(seed, figures) for seed, figures in ((1, 5), (2, 20), (3, 60), (4, 94), (5, 94), (6, 94))]


class IsLeast(unittest.TestCase):
    def test_least_ones(self):
        for form in LEAST:
            self.assertIs(is_least(form), True, form)

    def test_others(self):
        for form in NOT_LEAST:
            self.assertIs(is_least(form), False, form)

    def test_by_the_words_of_the_document(self):
        for form in bowls(7):
            self.assertIs(is_least(form), least_by_the_words(form), form)


class Settled(unittest.TestCase):
    def assert_settled(self, form, least=None):
        told = settled(form)
        self.assertTrue(type(told) is tuple and len(told) == 2)
        self.assertTrue(is_tuple_of_wholes(told[0], 3) and is_tuple_of_wholes(told[1], 4))
        p, q, r, s = told[1]
        self.assertEqual(p * s - q * r, 1, form)
        self.assertEqual(move(form, told[1]), told[0], form)
        self.assertTrue(least_by_the_words(told[0]), form)
        if least is not None:
            self.assertEqual(told[0], least, form)

    def test_a_least_bowl_is_itself(self):
        for form in LEAST:
            self.assert_settled(form, form)

    def test_by_hand(self):
        self.assert_settled((1, -1, 1), (1, 1, 1))
        self.assert_settled((2, -2, 3), (2, 2, 3))
        self.assert_settled((2, -1, 2), (2, 1, 2))
        self.assert_settled((5, 6, 2), (1, 0, 1))
        self.assert_settled((3, 1, 2), (2, -1, 3))
        self.assert_settled((3, -1, 2), (2, 1, 3))
        self.assert_settled((GREAT, -GREAT, GREAT), (GREAT, GREAT, GREAT))

    def test_all_small_bowls(self):
        for form in bowls(8):
            self.assert_settled(form)

    def test_bowls_moved_by_small_turns(self):
        for least in LEAST:
            for turn in small_turns(2):
                self.assert_settled(move(least, turn), least)

    def test_bowls_moved_by_long_rows_of_turns(self):
        for least in [form for form in LEAST if form[2] < 10 ** 9]:
            for turn in long_turns():
                self.assert_settled(move(least, turn), least)

    def test_the_longest_numbers(self):
        lengths = [len(str(move((2, 1, 3), turn)[0])) for turn in long_turns()]
        self.assertTrue(180 < max(lengths) <= 200, lengths)
        self.assert_settled((10 ** 199, 0, 1), (1, 0, 10 ** 199))
        self.assert_settled((10 ** 199 + 1, 2 * 10 ** 99, 1), (1, 0, 10 ** 199 + 1 - 10 ** 198))
        self.assert_settled((1, 2 * 10 ** 99, 10 ** 199), (1, 0, 10 ** 199 - 10 ** 198))
        self.assert_settled((GREAT * 7 + 3, -GREAT * 2 + 1, GREAT - 8))

    def test_bowls_that_are_moved_to_one_another_have_the_same_least_bowl(self):
        for form in ((6, 5, 4), (GREAT, 5, 8), (41, -3, 17)):
            for turn in long_turns()[:3] + [(1, GREAT, 0, 1), (1, 0, -GREAT, 1)]:
                self.assertEqual(settled(move(form, turn))[0], settled(form)[0])


class OwnTurns(unittest.TestCase):
    def assert_own(self, form, count):
        told = own_turns(form)
        self.assertIs(type(told), list)
        self.assertEqual(len(told), count, form)
        self.assertEqual(told, sorted(set(told)), form)
        self.assertIn(SAME, told)
        self.assertIn(MINUS, told)
        for turn in told:
            self.assertTrue(is_tuple_of_wholes(turn, 4))
            self.assertEqual(turn[0] * turn[3] - turn[1] * turn[2], 1)
            self.assertEqual(move(form, turn), form)

    def test_by_hand(self):
        self.assertEqual(own_turns((1, 0, 2)), [MINUS, SAME])
        self.assertEqual(own_turns((1, 1, 2)), [MINUS, SAME])
        self.assertEqual(own_turns((2, 1, 2)), [MINUS, SAME])
        self.assertEqual(own_turns((3, 0, 3)), [MINUS, (0, -1, 1, 0), (0, 1, -1, 0), SAME])
        six = [(-1, -1, 1, 0), MINUS, (0, -1, 1, 1), (0, 1, -1, -1), SAME, (1, 1, -1, 0)]
        self.assertEqual(own_turns((5, 5, 5)), six)

    def test_counts(self):
        counts = {(1, 0, 1): 4, (1, 1, 1): 6, (7, 0, 7): 4, (9, 9, 9): 6, (2, 2, 2): 6}
        counts.update({(GREAT, 0, GREAT): 4, (GREAT, GREAT, GREAT): 6})
        for least in LEAST:
            for turn in small_turns(1) + [(2, 1, 1, 1), (5, -3, 2, -1), (3, 5, 4, 7)]:
                self.assert_own(move(least, turn), counts.get(least, 2))

    def test_of_bowls_with_long_numbers(self):
        for turn in long_turns():
            self.assert_own(move((2, 1, 3), turn), 2)
            self.assert_own(move((3, 0, 3), turn), 4)
            self.assert_own(move((4, 4, 4), turn), 6)

    def test_none_is_missing(self):
        turns = small_turns(4)
        for form in bowls(3):
            told = own_turns(form)
            for turn in turns:
                self.assertEqual(turn in told, move(form, turn) == form, (form, turn))

    def test_together_they_are_own_turns_again(self):
        for form in ((13, 10, 2), (7, 5, 1), (5, 6, 2), (3, 9, 9), (13, -21, 9)):
            told = own_turns(form)
            for one in told:
                self.assertEqual(sorted(behind(one, other) for other in told), told)

    def test_a_list_that_was_told_is_the_askers_own(self):
        for form in ((1, 0, 2), (1, 0, 1), (5, 6, 2), (1, 1, 1)):
            told = own_turns(form)
            kept = list(told)
            told.clear()
            self.assertEqual(own_turns(form), kept)
            told = own_turns(form)
            told[0] = SAME
            told.append(SAME)
            self.assertEqual(own_turns(form), kept)

    def test_a_later_question_changes_nothing_that_is_told(self):
        told = own_turns((5, 6, 2))
        kept = list(told)
        own_turns((1, 1, 1))
        own_turns((5, 6, 2)).clear()
        self.assertEqual(told, kept)


class Refused(Refusals, unittest.TestCase):
    def test_what_is_no_bowl(self):
        self.assertGreater(measure_of(GREAT_SADDLES[0]), 4000)
        for form in DOMES + FLATS + GREAT_FLATS + GREAT_SADDLES + tuple(saddles(2)):
            for asked in (is_least, settled, own_turns):
                self.assert_refused(NoShape, {"form": form}, asked, form)


if __name__ == "__main__":
    unittest.main()
