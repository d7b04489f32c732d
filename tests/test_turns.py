import unittest

from formcycle.errors import NoTurn
from formcycle.turns import SAME, back, is_turn, led, then, times
from tests.samples import GREAT, NO_TURNS, behind, great_turns, is_tuple_of_wholes, points, small_turns

TURNS = small_turns(2) + great_turns()
SOME_TURNS = small_turns(1) + great_turns() + [(2, 1, 1, 1), (0, -1, 1, 5), (3, 5, 4, 7)]


class Turns(unittest.TestCase):
    def test_same(self):
        self.assertEqual(SAME, (1, 0, 0, 1))
        for point in points():
            self.assertEqual(led(SAME, point), point)

    def test_is_turn(self):
        turns = set(small_turns(2))
        numbers = range(-2, 3)
        for turn in [(p, q, r, s) for p in numbers for q in numbers for r in numbers for s in numbers]:
            self.assertIs(is_turn(turn), turn in turns, turn)
        for turn in great_turns():
            self.assertIs(is_turn(turn), True)
            self.assertIs(is_turn((turn[0], turn[1], turn[2], turn[3] + 1)), False)
        for turn in NO_TURNS:
            self.assertIs(is_turn(turn), False)


class Led(unittest.TestCase):
    def test_by_hand(self):
        self.assertEqual(led((2, 1, 1, 1), (5, 7)), (17, 12))
        self.assertEqual(led((0, -1, 1, 0), (5, 7)), (-7, 5))

    def test_by_the_sums(self):
        for turn in TURNS:
            p, q, r, s = turn
            for x, y in points():
                self.assertEqual(led(turn, (x, y)), (p * x + q * y, r * x + s * y))


class Then(unittest.TestCase):
    def test_by_hand(self):
        self.assertEqual(then((1, 1, 0, 1), (0, -1, 1, 0)), (1, -1, 1, 0))
        self.assertEqual(then((0, -1, 1, 0), (1, 1, 0, 1)), (0, -1, 1, 1))

    def test_by_the_sums(self):
        for one in SOME_TURNS:
            for other in SOME_TURNS:
                told = then(one, other)
                self.assertEqual(told, behind(one, other))
                self.assertTrue(is_turn(told))

    def test_leads_by_the_other_and_then_by_the_one(self):
        for one in SOME_TURNS:
            for other in SOME_TURNS:
                self.assertEqual(led(then(one, other), (5, -3)), led(one, led(other, (5, -3))))


class Back(unittest.TestCase):
    def test_by_the_sums(self):
        for turn in TURNS:
            p, q, r, s = turn
            self.assertEqual(back(turn), (s, -q, -r, p))

    def test_leads_back(self):
        for turn in TURNS:
            self.assertEqual(then(turn, back(turn)), SAME)
            self.assertEqual(then(back(turn), turn), SAME)
            for point in points():
                self.assertEqual(led(back(turn), led(turn, point)), point)


class Times(unittest.TestCase):
    def test_by_hand(self):
        self.assertEqual(times((1, 1, 0, 1), 100), (1, 100, 0, 1))
        self.assertEqual(times((1, 1, 0, 1), -100), (1, -100, 0, 1))
        self.assertEqual(times((2, 1, 1, 1), 2), (5, 3, 3, 2))
        self.assertEqual(times((2, 1, 1, 1), -2), (2, -3, -3, 5))

    def test_one_more_for_each_count(self):
        for turn in SOME_TURNS:
            away, home = SAME, SAME
            for count in range(12):
                self.assertEqual(times(turn, count), away)
                self.assertEqual(times(turn, -count), home)
                away = behind(away, turn)
                home = behind(home, back(turn))

    def test_counts_at_the_edges(self):
        for turn in small_turns(1) + [(3, 5, 4, 7), (GREAT + 1, GREAT, 1, 1)]:
            away, home = SAME, SAME
            for more in range(100):
                away = behind(away, turn)
                home = behind(home, back(turn))
            self.assertEqual(times(turn, 0), SAME)
            self.assertEqual(times(turn, 1), turn)
            self.assertEqual(times(turn, -1), back(turn))
            self.assertEqual(times(turn, 100), away)
            self.assertEqual(times(turn, -100), home)

    def test_the_longest_turn_and_its_way_back(self):
        long_number = 10 ** 1999 + 3
        turn = (long_number + 1, long_number, 1, 1)
        self.assertEqual(then(times(turn, 100), times(turn, -100)), SAME)


class Refusals(unittest.TestCase):
    def assert_refused(self, turn, asked, *handed):
        with self.assertRaises(NoTurn) as refusal:
            asked(*handed)
        self.assertEqual(refusal.exception.turn, turn)
        self.assertTrue(is_tuple_of_wholes(refusal.exception.turn, 4))

    def test_what_is_no_turn(self):
        for turn in NO_TURNS:
            self.assert_refused(turn, led, turn, (1, 2))
            self.assert_refused(turn, led, turn, (0, 0))
            self.assert_refused(turn, back, turn)

    def test_times_refuses_whatever_the_count(self):
        for turn in NO_TURNS:
            for count in (0, 1, -1, 2, -2, 100, -100):
                self.assert_refused(turn, times, turn, count)

    def test_then_tells_the_first_that_is_none(self):
        for turn in NO_TURNS:
            self.assert_refused(turn, then, turn, SAME)
            self.assert_refused(turn, then, SAME, turn)
            for other in NO_TURNS:
                self.assert_refused(turn, then, turn, other)

    def test_two_that_are_none_may_not_make_up_for_one_another(self):
        swap = (0, 1, 1, 0)
        self.assertTrue(is_turn(behind(swap, swap)))
        self.assert_refused(swap, then, swap, swap)
        self.assert_refused(swap, times, swap, 2)


if __name__ == "__main__":
    unittest.main()
