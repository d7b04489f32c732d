"""Points 1 to 3: the kinds of what is told, the same told again, nothing changed by asking or by a refusal."""

import unittest

from formcycle.answers import all_answers, heads, whence
from formcycle.bowls import is_least, own_turns, settled
from formcycle.chains import chain, fraction, minus_one, part, plus_one
from formcycle.classes import classes, order_of, power, table, unit
from formcycle.errors import (
    Apart,
    FormError,
    NoAnswer,
    NoMeasure,
    NoRoot,
    NoShape,
    NotLevel,
    NotOwn,
    NotPlain,
    NoTurn,
    Nought,
    TooGreat,
)
from formcycle.forms import content, measure, moved, opposite, shape, value
from formcycle.near import nearest
from formcycle.products import joined, product
from formcycle.saddles import after, eased, is_level, power_of, round_of, step_of
from formcycle.shapes import alike, least_of, shape_of
from formcycle.turns import SAME, back, is_turn, led, then, times
from formcycle.wholes import divisor, is_square, powered, root, shares
from tests.samples import GREAT, is_tuple_of_wholes, is_whole

NUMBERS = (0, 1, -1, 2, 12, -GREAT, GREAT)
TURNS = (SAME, (-1, 0, 0, -1), (0, -1, 1, 0), (2, 1, 1, 1), (1, GREAT, 0, 1))
POINTS = ((0, 0), (1, 0), (0, 1), (-3, 1), (GREAT, 1))
FORMS = ((0, 0, 0), (1, 0, 0), (0, 1, 0), (1, 1, 1), (-1, 0, -1), (1, 0, -2), (GREAT, 1, -GREAT))
COUNTS = (0, 1, -1, 2, 7, 100, -100)
BOWLS = ((1, 0, 1), (1, 1, 1), (5, 6, 2), (2, 1, 3), (GREAT, 1, GREAT))
LEVEL = ((1, 1, -1), (-1, 2, 1), (2, 4, -3), (2, 2, -2))
SADDLES = LEVEL + ((1, 0, -2), (6, 0, -9), (1, 0, -1000), (1, 2 * GREAT, GREAT * GREAT - 2))
PLAIN = tuple(form for form in BOWLS + SADDLES if content(form) == 1)
MEASURES = (-3, -4, -23, -84, -400, 5, 12, 40, 396)
ROOTS = (2, 3, 7, 61, 1000)


def asked_for_wholes():
    for one in NUMBERS:
        yield root, (abs(one),)
        for other in NUMBERS:
            yield divisor, (one, other)
    for form in FORMS:
        yield measure, (form,)
        yield content, (form,)
        for point in POINTS:
            yield value, (form, point)
    for count in (0, 1, 2, 9):
        yield powered, (3, count, divisor, 0)
    for form in PLAIN:
        if measure(form) >= -4000:
            yield order_of, (form,)
    for number in ROOTS:
        for k in (0, 1, 2, 5, 300, 10 ** 1999):
            yield part, (number, k)


def asked_for_tuples():
    """Each with how many whole numbers there are in what is told."""
    for one in NUMBERS:
        for other in NUMBERS:
            yield 3, shares, (one, other)
    for turn in TURNS:
        yield 4, back, (turn,)
        for other in TURNS:
            yield 4, then, (turn, other)
        for count in COUNTS:
            yield 4, times, (turn, count)
        for point in POINTS:
            yield 2, led, (turn, point)
        for form in FORMS:
            yield 3, moved, (form, turn)
    for form in FORMS:
        yield 3, opposite, (form,)
    for form in LEVEL:
        yield 3, after, (form,)
    for form in SADDLES:
        yield 4, step_of, (form,)
        yield 2, power_of, (form, SAME)
        yield 2, power_of, (form, step_of(form))
    for form in BOWLS + SADDLES:
        yield 3, least_of, (form,)
        yield 4, alike, (form, form)
    for point in POINTS:
        yield 2, joined, (((1, 0, 0, -1), (0, 1, 1, 0)), (GREAT, 3), point)
    for number in MEASURES + (4000, -4000, -4 * GREAT):
        yield 3, unit, (number,)
    for form in PLAIN:
        for count in (0, 1, -1, 2, -7, 10 ** 6, -10 ** 6):
            yield 3, power, (form, count)
    for number in ROOTS:
        yield 2, plus_one, (number,)
        for k in (0, 1, 2, 300):
            yield 2, fraction, (number, k)
        for most in (1, 2, 100, 10 ** 60):
            yield 2, nearest, (number, most)
    for number in (2, 61):
        yield 2, minus_one, (number,)


def asked_for_pairs():
    """Each tells the tuple (form, turn)."""
    for form in BOWLS:
        yield settled, (form,)
    for form in SADDLES:
        yield eased, (form,)
    for form in BOWLS + SADDLES:
        yield shape_of(form).least, ()


def asked_for_lists():
    """Each with how many whole numbers there are in each tuple of the list that is told."""
    for form in BOWLS:
        yield 4, own_turns, (form,)
        for number in (-1, 0, 1, 5, 36, 400):
            yield 2, all_answers, (form, number)
    for form in SADDLES:
        yield 3, round_of, (form,)
    for form in BOWLS + SADDLES:
        for number in (-7, -1, 1, 5, 36, 400):
            yield 2, heads, (form, number)
    for number in MEASURES + (4000, -4000):
        yield 3, classes, (number,)
    for number in ROOTS:
        yield 3, chain, (number,)


def asked_for_places():
    """Each tells the tuple (place, turn)."""
    for form in BOWLS + SADDLES:
        for number in (-7, -1, 1, 5, 36, 400):
            for point in heads(form, number):
                yield whence, (form, number, point)


def asked_for_truths():
    for number in NUMBERS:
        yield is_square, (number,)
    for turn in TURNS + ((0, 0, 0, 0), (1, 1, 1, 1)):
        yield is_turn, (turn,)
    for form in BOWLS:
        yield is_least, (form,)
    for form in SADDLES:
        yield is_level, (form,)
    for form in BOWLS + SADDLES:
        for turn in TURNS:
            yield shape_of(form).leaves, (turn,)


def everything_told():
    told = [asked(*handed) for asked, handed in list(asked_for_wholes()) + list(asked_for_truths())]
    told += [asked(*handed) for length, asked, handed in asked_for_tuples()]
    told += [asked(*handed) for asked, handed in asked_for_pairs()]
    told += [asked(*handed) for length, asked, handed in asked_for_lists()]
    told += [asked(*handed) for asked, handed in asked_for_places()]
    told += [product(form, form) for form in PLAIN]
    told += [table(number) for number in MEASURES] + [minus_one(3)]
    return told + [shape(form) for form in FORMS] + [SAME]


def refused_calls():
    no_turn = (1, 2, 3, 4)
    return [
        (NoRoot, root, (-1,)),
        (NoTurn, led, (no_turn, (1, 1))),
        (NoTurn, then, (no_turn, SAME)),
        (NoTurn, then, (SAME, no_turn)),
        (NoTurn, back, (no_turn,)),
        (NoTurn, times, (no_turn, 0)),
        (NoTurn, times, (no_turn, -3)),
        (NoTurn, moved, ((1, 1, 1), no_turn)),
        (NoShape, settled, ((1, 0, -2),)),
        (NoShape, own_turns, ((-1, 0, -1),)),
        (NoShape, round_of, ((1, 0, 1),)),
        (TooGreat, eased, ((1, 1, -1000),)),
        (NotLevel, after, ((1, 0, -2),)),
        (NoTurn, power_of, ((1, 0, -2), no_turn)),
        (NotOwn, power_of, ((1, 0, -2), (1, 1, 0, 1))),
        (NoShape, shape_of, ((1, 2, 1),)),
        (TooGreat, alike, ((1, 1, -1000), (1, 2, 1))),
        (NoTurn, shape_of((1, 0, 1)).leaves, (no_turn,)),
        (Apart, product, ((1, 0, 1), (1, 0, 2))),
        (NotPlain, product, ((2, 0, 2), (2, 0, 2))),
        (NoMeasure, unit, (2,)),
        (NoMeasure, table, (400,)),
        (TooGreat, classes, (-4003,)),
        (TooGreat, table, (401,)),
        (NotPlain, power, ((2, 0, 2), 0)),
        (TooGreat, order_of, ((2, 0, 502),)),
        (Nought, heads, ((1, 0, 1), 0)),
        (TooGreat, heads, ((1, 0, 1), -401)),
        (NoAnswer, whence, ((1, 0, 1), 5, (1, 1))),
        (NoShape, all_answers, ((1, 0, -2), 401)),
        (NoRoot, chain, (4,)),
        (TooGreat, part, (1001, 5)),
        (TooGreat, fraction, (2, 301)),
        (NoRoot, minus_one, (1,)),
        (NoRoot, nearest, (-2, 5)),
    ]


class Kinds(unittest.TestCase):
    def test_whole_numbers(self):
        for asked, handed in asked_for_wholes():
            self.assertTrue(is_whole(asked(*handed)), (asked, handed))

    def test_tuples_of_whole_numbers(self):
        for length, asked, handed in asked_for_tuples():
            self.assertTrue(is_tuple_of_wholes(asked(*handed), length), (asked, handed))
        self.assertTrue(is_tuple_of_wholes(SAME, 4))

    def test_forms_with_turns(self):
        for asked, handed in asked_for_pairs():
            told = asked(*handed)
            self.assertTrue(type(told) is tuple and len(told) == 2, (asked, handed))
            self.assertTrue(is_tuple_of_wholes(told[0], 3) and is_tuple_of_wholes(told[1], 4), (asked, handed))

    def test_lists(self):
        for length, asked, handed in asked_for_lists():
            told = asked(*handed)
            self.assertIs(type(told), list, (asked, handed))
            self.assertTrue(all(is_tuple_of_wholes(thing, length) for thing in told), (asked, handed))

    def test_places_with_turns(self):
        for asked, handed in asked_for_places():
            told = asked(*handed)
            self.assertTrue(type(told) is tuple and len(told) == 2, (asked, handed))
            self.assertTrue(is_whole(told[0]) and is_tuple_of_wholes(told[1], 4), (asked, handed))

    def test_lists_of_lists(self):
        for number in MEASURES:
            told = table(number)
            self.assertIs(type(told), list)
            for row in told:
                self.assertIs(type(row), list)
                self.assertTrue(all(is_whole(place) for place in row), number)

    def test_none(self):
        self.assertIsNone(minus_one(3))
        self.assertIsNone(alike((1, 0, 1), (1, 0, 2)))

    def test_truths(self):
        for asked, handed in asked_for_truths():
            self.assertIs(type(asked(*handed)), bool, (asked, handed))


class AskedAgain(unittest.TestCase):
    def test_the_same_is_told(self):
        told = everything_told()
        self.assertEqual(everything_told(), told)

    def test_the_same_is_told_whatever_was_asked_between(self):
        told = [(asked, handed, asked(*handed)) for length, asked, handed in asked_for_tuples()]
        for asked, handed, before in reversed(told):
            self.assertEqual(asked(*handed), before, (asked, handed))


class AskersOwn(unittest.TestCase):
    def test_a_list_that_was_changed_is_told_anew_as_it_was(self):
        for length, asked, handed in asked_for_lists():
            told = asked(*handed)
            kept = list(told)
            told.reverse()
            told.append(None)
            self.assertEqual(asked(*handed), kept, (asked, handed))

    def test_a_later_question_changes_no_list(self):
        told = [asked(*handed) for length, asked, handed in asked_for_lists()]
        kept = [list(one) for one in told]
        for length, asked, handed in asked_for_lists():
            asked(*handed).clear()
        self.assertEqual(told, kept)


    def test_a_changed_table_is_told_anew_as_it_was(self):
        for number in MEASURES:
            told = table(number)
            kept = [list(row) for row in told]
            for row in table(number):
                row.append(None)
                row.reverse()
            self.assertEqual(told, kept)
            self.assertEqual(table(number), kept)


class Refused(unittest.TestCase):
    def test_each_is_refused_by_its_own_class(self):
        for refusal, asked, handed in refused_calls():
            with self.assertRaises(FormError) as raised:
                asked(*handed)
            self.assertIs(type(raised.exception), refusal, (asked, handed))

    def test_a_refused_call_changes_nothing(self):
        ahead = everything_told()
        for refusal, asked, handed in refused_calls():
            with self.assertRaises(refusal):
                asked(*handed)
            self.assertEqual(everything_told(), ahead)


if __name__ == "__main__":
    unittest.main()
