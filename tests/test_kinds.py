"""Points 1 to 3: the kinds of what is told, the same told again, nothing changed by asking or by a refusal."""

import unittest

from formcycle.errors import FormError, NoRoot, NoTurn
from formcycle.forms import content, measure, moved, opposite, shape, value
from formcycle.turns import SAME, back, is_turn, led, then, times
from formcycle.wholes import divisor, is_square, powered, root, shares
from tests.samples import GREAT, is_tuple_of_wholes, is_whole

NUMBERS = (0, 1, -1, 2, 12, -GREAT, GREAT)
TURNS = (SAME, (-1, 0, 0, -1), (0, -1, 1, 0), (2, 1, 1, 1), (1, GREAT, 0, 1))
POINTS = ((0, 0), (1, 0), (0, 1), (-3, 1), (GREAT, 1))
FORMS = ((0, 0, 0), (1, 0, 0), (0, 1, 0), (1, 1, 1), (-1, 0, -1), (1, 0, -2), (GREAT, 1, -GREAT))
COUNTS = (0, 1, -1, 2, 7, 100, -100)


def asked_for_wholes():
    for one in NUMBERS:
        yield root, (abs(one),)
        for other in NUMBERS:
            yield divisor, (one, other)
    for form in FORMS:
        yield measure, (form,)
        yield content, (form,)
        for point in POINTS:
            yield value, (form, point)
    for count in (0, 1, 2, 9):
        yield powered, (3, count, divisor, 0)


def asked_for_tuples():
    """Each with how many whole numbers there are in what is told."""
    for one in NUMBERS:
        for other in NUMBERS:
            yield 3, shares, (one, other)
    for turn in TURNS:
        yield 4, back, (turn,)
        for other in TURNS:
            yield 4, then, (turn, other)
        for count in COUNTS:
            yield 4, times, (turn, count)
        for point in POINTS:
            yield 2, led, (turn, point)
        for form in FORMS:
            yield 3, moved, (form, turn)
    for form in FORMS:
        yield 3, opposite, (form,)


def asked_for_truths():
    for number in NUMBERS:
        yield is_square, (number,)
    for turn in TURNS + ((0, 0, 0, 0), (1, 1, 1, 1)):
        yield is_turn, (turn,)


def everything_told():
    told = [asked(*handed) for asked, handed in list(asked_for_wholes()) + list(asked_for_truths())]
    told += [asked(*handed) for length, asked, handed in asked_for_tuples()]
    return told + [shape(form) for form in FORMS] + [SAME]


def refused_calls():
    no_turn = (1, 2, 3, 4)
    return [
        (NoRoot, root, (-1,)),
        (NoTurn, led, (no_turn, (1, 1))),
        (NoTurn, then, (no_turn, SAME)),
        (NoTurn, then, (SAME, no_turn)),
        (NoTurn, back, (no_turn,)),
        (NoTurn, times, (no_turn, 0)),
        (NoTurn, times, (no_turn, -3)),
        (NoTurn, moved, ((1, 1, 1), no_turn)),
    ]


class Kinds(unittest.TestCase):
    def test_whole_numbers(self):
        for asked, handed in asked_for_wholes():
            self.assertTrue(is_whole(asked(*handed)), (asked, handed))

    def test_tuples_of_whole_numbers(self):
        for length, asked, handed in asked_for_tuples():
            self.assertTrue(is_tuple_of_wholes(asked(*handed), length), (asked, handed))
        self.assertTrue(is_tuple_of_wholes(SAME, 4))

    def test_truths(self):
        for asked, handed in asked_for_truths():
            self.assertIs(type(asked(*handed)), bool, (asked, handed))


class AskedAgain(unittest.TestCase):
    def test_the_same_is_told(self):
        told = everything_told()
        self.assertEqual(everything_told(), told)

    def test_the_same_is_told_whatever_was_asked_between(self):
        told = [(asked, handed, asked(*handed)) for length, asked, handed in asked_for_tuples()]
        for asked, handed, before in reversed(told):
            self.assertEqual(asked(*handed), before, (asked, handed))


class Refused(unittest.TestCase):
    def test_each_is_refused_by_its_own_class(self):
        for refusal, asked, handed in refused_calls():
            with self.assertRaises(FormError) as raised:
                asked(*handed)
            self.assertIs(type(raised.exception), refusal, (asked, handed))

    def test_a_refused_call_changes_nothing(self):
        ahead = everything_told()
        for refusal, asked, handed in refused_calls():
            with self.assertRaises(refusal):
                asked(*handed)
            self.assertEqual(everything_told(), ahead)


if __name__ == "__main__":
    unittest.main()
