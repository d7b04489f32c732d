"""What several tests ask about: turns, forms and points, small and great, and the kinds of what is told."""

from itertools import product

GREAT = 7 ** 236 + 12345

NO_TURNS = (
    (0, 0, 0, 0),
    (1, 0, 0, -1),
    (0, 1, 1, 0),
    (1, 1, 1, 1),
    (2, 0, 0, 1),
    (-1, 0, 0, 1),
    (GREAT, GREAT, GREAT, GREAT + 2),
)


def small_turns(most):
    numbers = range(-most, most + 1)
    return [turn for turn in product(numbers, repeat=4) if turn[0] * turn[3] - turn[1] * turn[2] == 1]


def great_turns():
    # Each is made so that p s - q r is 1 by its very form, whatever the two numbers are.
    made = []
    for one, other in ((GREAT, -GREAT + 1), (3, GREAT), (-GREAT * GREAT, 10 ** 1900 + 1)):
        made.append((1 + one * other, one, other, 1))
        made.append((-1, -one, -other, -1 - one * other))
    return made


def small_forms(most):
    return list(product(range(-most, most + 1), repeat=3))


def great_forms():
    long_number = 10 ** 199 + 7
    return [
        (GREAT, -GREAT, GREAT + 1),
        (-GREAT, 3, -GREAT - 1),
        (long_number, -long_number, -long_number),
        (6 * 10 ** 198, 4 * 10 ** 198, -10 ** 198),
    ]


def points():
    return list(product((-3, -1, 0, 1, 2), repeat=2)) + [(GREAT, -2), (-10 ** 1999, GREAT)]


def is_whole(thing):
    return type(thing) is int


def is_tuple_of_wholes(thing, length):
    return type(thing) is tuple and len(thing) == length and all(is_whole(number) for number in thing)
