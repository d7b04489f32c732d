"""Answers: heads of the families, whence an answer comes, and all answers of a bowl (points 24 to 27)."""

from formcycle.bowls import check_bowl, own_turns
from formcycle.errors import NoAnswer, Nought
from formcycle.forms import moved, value
from formcycle.shapes import shape_of
from formcycle.turns import back, led, put_behind
from formcycle.wholes import check_within, root, shares

MOST_NUMBER = 400


def heads(form, number):
    return [family[0] for family in families(form, number)]


# A family is told as a tuple (head, foot, turn): the turn moves the form to the foot, the form (m, b, c) of point 25,
# and the head is g times the turn's first column.
def families(form, number):
    whole = shape_of(form)
    if number == 0:
        raise Nought("the families of answers for nought are not told")
    check_within(number, MOST_NUMBER)
    found = []
    for g in roots_of_square_divisors(number):
        for foot in feet(number // (g * g), whole.measure):
            turn = whole.way_to(foot)
            if turn is not None:
                found.append(((g * turn[0], g * turn[2]), foot, turn))
    return sorted(found)


def roots_of_square_divisors(number):
    return [g for g in range(1, root(abs(number)) + 1) if number % (g * g) == 0]


def feet(first, far):
    middles = [b for b in range(2 * abs(first)) if (b * b - far) % (4 * first) == 0]
    return [(first, b, (b * b - far) // (4 * first)) for b in middles]


def whence(form, number, point):
    found = families(form, number)
    if value(form, point) != number:
        raise NoAnswer(point)
    turn = turn_to_foot(form, point)
    # The number is g g times the foot's first number, so where the foot is the same g is the same too.
    place = [family[1] for family in found].index(moved(form, turn))
    return (place, put_behind(turn, back(found[place][2])))


# The turn that moves the form to the foot of the point's family and has the point, divided by g, as its first column.
def turn_to_foot(form, point):
    common = shares(point[0], point[1])
    g = common[0]
    turn = (point[0] // g, -common[2], point[1] // g, common[1])
    stands = moved(form, turn)
    twice = 2 * stands[0]
    often = (stands[1] % abs(twice) - stands[1]) // twice
    return put_behind(turn, (1, often, 0, 1))


def all_answers(form, number):
    check_bowl(form)
    check_within(number, MOST_NUMBER)
    if number == 0:
        return [(0, 0)]
    tops = heads(form, number)
    found = []
    for turn in own_turns(form):
        found.extend([led(turn, head) for head in tops])
    return sorted(found)
