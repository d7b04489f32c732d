"""Turns: where they lead, one and then another, the way back, a turn so many times (point 7)."""

from formcycle.errors import NoTurn
from formcycle.wholes import powered

SAME = (1, 0, 0, 1)


def is_turn(turn):
    return turn[0] * turn[3] - turn[1] * turn[2] == 1


def check_turn(turn):
    if not is_turn(turn):
        raise NoTurn(turn)


def led(turn, point):
    check_turn(turn)
    return (turn[0] * point[0] + turn[1] * point[1], turn[2] * point[0] + turn[3] * point[1])


def then(one, other):
    check_turn(one)
    check_turn(other)
    return put_behind(one, other)


# What is made of turns alone is a turn, so the long numbers within "times" are not checked again and again.
def put_behind(one, other):
    return (
        one[0] * other[0] + one[1] * other[2],
        one[0] * other[1] + one[1] * other[3],
        one[2] * other[0] + one[3] * other[2],
        one[2] * other[1] + one[3] * other[3],
    )


def back(turn):
    check_turn(turn)
    return (turn[3], -turn[1], -turn[2], turn[0])


def times(turn, count):
    check_turn(turn)
    if count < 0:
        return powered(back(turn), -count, put_behind, SAME)
    return powered(turn, count, put_behind, SAME)
