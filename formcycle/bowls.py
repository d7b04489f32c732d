"""Bowls: which are least, settling, and the turns that move a bowl to itself (points 10 to 12)."""

from formcycle.errors import NoShape
from formcycle.forms import moved, shape
from formcycle.turns import SAME, back, put_behind


def check_bowl(form):
    if shape(form) != "bowl":
        raise NoShape(form)


def is_least(form):
    check_bowl(form)
    return stands_least(form)


def stands_least(form):
    a = form[0]
    b = form[1]
    c = form[2]
    if not -a <= b <= a <= c:
        return False
    return b >= 0 or (b != -a and a != c)


def settled(form):
    check_bowl(form)
    turn = SAME
    while not stands_least(form):
        lowering = turn_lower(form)
        form = moved(form, lowering)
        turn = put_behind(turn, lowering)
    return (form, turn)


def turn_lower(form):
    # So many times 2 a brings b above -a and to a at most.
    often = (form[0] - form[1]) // (2 * form[0])
    if often != 0:
        return (1, often, 0, 1)
    return (0, -1, 1, 0)


def own_turns(form):
    lowest = settled(form)
    there = lowest[1]
    home = back(there)
    return sorted([put_behind(put_behind(there, turn), home) for turn in turns_of_least(lowest[0])])


def turns_of_least(form):
    turning = turning_of_least(form)
    turns = [SAME]
    came = turning
    while came != SAME:
        turns.append(came)
        came = put_behind(came, turning)
    return turns


# All own turns of a least bowl are one of them so many times: this one.
def turning_of_least(form):
    if form[0] == form[2] and form[1] == 0:
        return (0, -1, 1, 0)
    if form[0] == form[2] and form[1] == form[0]:
        return (0, -1, 1, 1)
    return (-1, 0, 0, -1)
