"""Chains of roots: rows, parts and fractions, the plus one and the minus one (points 28 to 30)."""

from formcycle.errors import NoRoot
from formcycle.wholes import check_at_most, is_square, root

MOST_NUMBER = 1000
MOST_PLACE = 300


def check_number(number):
    if number < 2 or is_square(number):
        raise NoRoot(number)
    check_at_most(number, MOST_NUMBER)


def chain(number):
    check_number(number)
    far = root(number)
    rows = [(0, 1, far)]
    rows.append(row_behind(rows[0], number, far))
    while rows[-1][1] != 1:
        rows.append(row_behind(rows[-1], number, far))
    return rows


def row_behind(row, number, far):
    p = row[2] * row[1] - row[0]
    q = (number - p * p) // row[1]
    return (p, q, (far + p) // q)


def part(number, k):
    return part_of(chain(number), k)


# Behind the last row the rows come again from the second one on, so k may be of any size.
def part_of(rows, k):
    if k == 0:
        return rows[0][2]
    return rows[1 + (k - 1) % (len(rows) - 1)][2]


def fraction(number, k):
    rows = chain(number)
    check_at_most(k, MOST_PLACE)
    return fraction_of(rows, k)


def fraction_of(rows, k):
    pair = first_pair(rows)
    for place in range(1, k + 1):
        pair = pair_behind(pair, part_of(rows, place))
    return pair[1]


# A pair is a fraction of the chain with the one ahead of it; ahead of the first one (1, 0) does for the sums.
def first_pair(rows):
    return ((1, 0), (rows[0][2], 1))


def pair_behind(pair, often):
    ahead = pair[0]
    last = pair[1]
    return (last, (often * last[0] + ahead[0], often * last[1] + ahead[1]))


def plus_one(number):
    point = point_of_round(chain(number))
    if square_less(number, point) == 1:
        return point
    # The minus one put together with itself is the plus one.
    return (point[0] * point[0] + number * point[1] * point[1], 2 * point[0] * point[1])


def minus_one(number):
    point = point_of_round(chain(number))
    if square_less(number, point) == -1:
        return point
    return None


# The fraction ahead of the row where Q is 1 again is the first one for which x x - N y y is 1 or -1.
def point_of_round(rows):
    return fraction_of(rows, len(rows) - 2)


def square_less(number, point):
    return point[0] * point[0] - number * point[1] * point[1]
