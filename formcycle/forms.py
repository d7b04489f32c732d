"""Forms: measure, what they take, moved forms, content, opposite and the four shapes (points 8 and 9)."""

from formcycle.turns import check_turn
from formcycle.wholes import divisor, is_square


def measure(form):
    return form[1] * form[1] - 4 * form[0] * form[2]


def value(form, point):
    x = point[0]
    y = point[1]
    return form[0] * x * x + form[1] * x * y + form[2] * y * y


def content(form):
    return divisor(divisor(form[0], form[1]), form[2])


def moved(form, turn):
    check_turn(turn)
    left = (turn[0], turn[2])
    right = (turn[1], turn[3])
    return (value(form, left), middle(form, left, right), value(form, right))


def middle(form, left, right):
    crossed = left[0] * right[1] + right[0] * left[1]
    return 2 * form[0] * left[0] * right[0] + form[1] * crossed + 2 * form[2] * left[1] * right[1]


def opposite(form):
    return (form[0], -form[1], form[2])


def shape(form):
    number = measure(form)
    if is_square(number):
        return "flat"
    if number > 0:
        return "saddle"
    # Below nought the measure leaves no form whose first number is nought.
    if form[0] > 0:
        return "bowl"
    return "dome"
