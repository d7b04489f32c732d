"""The nearest fraction to a root under a bound (point 31)."""

from formcycle.chains import chain, first_pair, pair_behind, part_of


def nearest(number, most):
    pair = last_pair_within(chain(number), most)
    often = (most - pair[0][1]) // pair[1][1]
    # The root lies between these two, and whatever else lies between them has a bottom beyond the bound.
    return nearer(number, pair[1], pair_behind(pair, often)[1])


def last_pair_within(rows, most):
    pair = first_pair(rows)
    place = 1
    further = pair_behind(pair, part_of(rows, place))
    while further[1][1] <= most:
        pair = further
        place += 1
        further = pair_behind(pair, part_of(rows, place))
    return pair


# The root lies between the two fractions: the side of their middle on which it lies tells which one is nearer.
def nearer(number, one, other):
    left = one[0] * other[1]
    right = other[0] * one[1]
    whole = 2 * one[1] * other[1]
    is_above_middle = number * whole * whole > (left + right) * (left + right)
    if is_above_middle == (left > right):
        return one
    return other
