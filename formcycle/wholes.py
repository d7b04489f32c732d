"""Whole numbers: divisor, shares, root, squares, a thing powered (points 4 to 6), and the bounds of what is asked."""

from formcycle.errors import NoRoot, TooGreat


def divisor(one, other):
    while other != 0:
        rest = one % other
        one = other
        other = rest
    return abs(one)


def shares(one, other):
    # Each row (n, u, v) keeps n = u * one + v * other, so the row that ends with the divisor has its shares too.
    row = (one, 1, 0)
    lower = (other, 0, 1)
    while lower[0] != 0:
        rest = row_less(row, lower, row[0] // lower[0])
        row = lower
        lower = rest
    if row[0] < 0:
        return (-row[0], -row[1], -row[2])
    return row


def row_less(row, lower, often):
    return (row[0] - often * lower[0], row[1] - often * lower[1], row[2] - often * lower[2])


def root(number):
    if number < 0:
        raise NoRoot(number)
    if number == 0:
        return 0
    # The guess begins above the root and sinks; the first time that it doesn't sink it is the root.
    guess = 1 << ((number.bit_length() + 1) // 2)
    better = (guess + number // guess) // 2
    while better < guess:
        guess = better
        better = (guess + number // guess) // 2
    return guess


def is_square(number):
    if number < 0:
        return False
    side = root(number)
    return side * side == number


def powered(thing, count, put, first):
    if count == 0:
        return first
    # The highest figure of the count is the thing itself, so "first" is never put together with anything.
    came = thing
    for place in range(count.bit_length() - 2, -1, -1):
        came = put(came, came)
        if (count >> place) % 2 == 1:
            came = put(came, thing)
    return came


def check_at_most(number, most):
    if number > most:
        raise TooGreat(number, most)


def check_within(number, most):
    if abs(number) > most:
        raise TooGreat(number, most)
