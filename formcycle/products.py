"""Products: two plain forms of one measure put together, and points joined by the rows (points 20 and 21)."""

from formcycle.errors import Apart, NotPlain
from formcycle.forms import content, measure
from formcycle.shapes import shape_of
from formcycle.turns import back, led
from formcycle.wholes import shares


def product(one, other):
    check_pair(one, other)
    common = common_shares(one, other)
    form = joint_form(one, other, common)
    lowest = shape_of(form).least()
    return (lowest[0], rows_led(back(lowest[1]), joint_rows(one, other, common[0], form[1])))


def check_pair(one, other):
    first = shape_of(one)
    second = shape_of(other)
    if first.measure != second.measure:
        raise Apart("two forms of different measures have no product")
    check_plain(one)
    check_plain(other)


def check_plain(form):
    if content(form) != 1:
        raise NotPlain(form)


def half_of_middles(one, other):
    return (one[1] + other[1]) // 2


# The numbers g, j and k of point 21; i isn't needed.
def common_shares(one, other):
    firsts = shares(one[0], other[0])
    whole = shares(firsts[0], half_of_middles(one, other))
    return (whole[0], whole[1] * firsts[2], whole[2])


def joint_form(one, other, common):
    g = common[0]
    d = other[0]
    e = other[1]
    first = one[0] * d // (g * g)
    more = common[1] * (half_of_middles(one, other) - e) - common[2] * other[2]
    # The multiples of 2 A are free: a short middle number keeps the way to the least form short.
    middle = (e + 2 * (d // g) * more) % (2 * first)
    return (first, middle, (middle * middle - measure(one)) // (4 * first))


def joint_rows(one, other, g, middle):
    a = one[0]
    b = one[1]
    d = other[0]
    e = other[1]
    s = half_of_middles(one, other)
    last = g * (b * e + measure(one) - 2 * middle * s) // (4 * a * d)
    upper = (g, g * (e - middle) // (2 * d), g * (b - middle) // (2 * a), last)
    return (upper, (0, a // g, d // g, s // g))


def rows_led(turn, rows):
    pairs = [led(turn, pair) for pair in zip(rows[0], rows[1])]
    return (tuple([pair[0] for pair in pairs]), tuple([pair[1] for pair in pairs]))


def joined(rows, one, other):
    return (joined_by(rows[0], one, other), joined_by(rows[1], one, other))


def joined_by(row, one, other):
    left = row[0] * one[0] + row[2] * one[1]
    right = row[1] * one[0] + row[3] * one[1]
    return left * other[0] + right * other[1]
