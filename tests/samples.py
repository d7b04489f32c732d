"""What several tests ask about: turns, forms and points, small and great, and the kinds of what is told."""

from itertools import product
from math import gcd, isqrt

GREAT = 7 ** 236 + 12345

NO_TURNS = (
    (0, 0, 0, 0),
    (1, 0, 0, -1),
    (0, 1, 1, 0),
    (1, 1, 1, 1),
    (2, 0, 0, 1),
    (-1, 0, 0, 1),
    (GREAT, GREAT, GREAT, GREAT + 2),
)


def small_turns(most):
    numbers = range(-most, most + 1)
    return [turn for turn in product(numbers, repeat=4) if turn[0] * turn[3] - turn[1] * turn[2] == 1]


def great_turns():
    # Each is made so that p s - q r is 1 by its very form, whatever the two numbers are.
    made = []
    for one, other in ((GREAT, -GREAT + 1), (3, GREAT), (-GREAT * GREAT, 10 ** 1900 + 1)):
        made.append((1 + one * other, one, other, 1))
        made.append((-1, -one, -other, -1 - one * other))
    return made


def row_of_turns(seed, figures):
    """A turn made of a long row of small ones, always the same for a seed, with numbers of about so many figures."""
    turn = (1, 0, 0, 1)
    while max(abs(number) for number in turn) < 10 ** figures:
        seed = (seed * 1103515245 + 12345) % 2 ** 31
        often = seed // 2 ** 16 % 15 - 7
        turn = behind(turn, (0, -1, 1, often if abs(often) > 1 else 5 * often + 2))
    return turn


def behind(one, other):
    p, q, r, s = one
    t, u, v, w = other
    return (p * t + q * v, p * u + q * w, r * t + s * v, r * u + s * w)


def home(turn):
    p, q, r, s = turn
    return (s, -q, -r, p)


def with_signs_changed(turn):
    return tuple(-number for number in turn)


def so_many(turn, count):
    """A turn so many times, for counts of any size."""
    if count < 0:
        return so_many(home(turn), -count)
    came = (1, 0, 0, 1)
    for figure in bin(count)[2:]:
        came = behind(came, came)
        if figure == "1":
            came = behind(came, turn)
    return came


def move(form, turn):
    a, b, c = form
    p, q, r, s = turn
    return (
        a * p * p + b * p * r + c * r * r,
        2 * a * p * q + b * (p * s + q * r) + 2 * c * r * s,
        a * q * q + b * q * s + c * s * s,
    )


def taken(form, point):
    return form[0] * point[0] ** 2 + form[1] * point[0] * point[1] + form[2] * point[1] ** 2


def measure_of(form):
    return form[1] * form[1] - 4 * form[0] * form[2]


def is_no_square(number):
    return number < 0 or isqrt(number) ** 2 != number


def bowls(most):
    return [form for form in small_forms(most) if form[0] > 0 and measure_of(form) < 0]


def saddles(most):
    return [form for form in small_forms(most) if measure_of(form) > 0 and is_no_square(measure_of(form))]


def saddle_measures(most):
    return [number for number in range(2, most + 1) if number % 4 < 2 and is_no_square(number)]


def unit_form(number):
    return (1, number % 4, (number % 4 - number) // 4)


def level_forms(number):
    """All level forms of a measure, by the words of the document."""
    far = isqrt(number)
    found = []
    for b in range(1, far + 1):
        for a in range(-far, far + 1):
            if a != 0 and (b * b - number) % (4 * a) == 0 and far - b < 2 * abs(a) <= far + b:
                found.append((a, b, (b * b - number) // (4 * a)))
    return found


def behind_by_the_words(form):
    a, b, c = form
    number = measure_of(form)
    d = isqrt(number)
    while (b + d) % (2 * c) != 0:
        d -= 1
    return (c, d, (d * d - number) // (4 * c))


def rings(number):
    """The rings of a measure by the words of the document, each from its least form on."""
    left = sorted(level_forms(number))
    found = []
    while left:
        ring = [left[0]]
        while behind_by_the_words(ring[-1]) != ring[0]:
            ring.append(behind_by_the_words(ring[-1]))
        left = [form for form in left if form not in ring]
        found.append(ring)
    return found


def least_by_the_words(form):
    a, b, c = form
    if not (-a <= b and b <= a and a <= c):
        return False
    if b == -a or a == c:
        return b >= 0
    return True


def plain_forms(number, most):
    """The plain bowls or saddles of a measure whose first and middle number lie within a bound."""
    found = []
    for a in range(-most if number > 0 else 1, most + 1):
        for b in range(-most, most + 1):
            if a != 0 and (b * b - number) % (4 * a) == 0:
                form = (a, b, (b * b - number) // (4 * a))
                if gcd(*form) == 1:
                    found.append(form)
    return found


DOMES = ((-1, 0, -1), (-1, 1, -1), (-5, 4, -1), (-GREAT, 1, -GREAT))
FLATS = ((0, 0, 0), (1, 2, 1), (1, 0, 0), (0, 1, 0), (0, -5, 7), (1, 3, 2), (1, 0, -GREAT * GREAT))
# Their measures are squares above 4000.
GREAT_FLATS = ((1, 0, -1024), (0, 64, 1), (0, 10 ** 199, 0), (-1, 0, 2500))
# Their measures are 4001, 4004, and far above.
GREAT_SADDLES = ((1, 1, -1000), (-1, 1, 1000), (1, 0, -1001), (GREAT, 1, -GREAT), (1, 10 ** 199, 1))


def small_forms(most):
    return list(product(range(-most, most + 1), repeat=3))


def great_forms():
    long_number = 10 ** 199 + 7
    return [
        (GREAT, -GREAT, GREAT + 1),
        (-GREAT, 3, -GREAT - 1),
        (long_number, -long_number, -long_number),
        (6 * 10 ** 198, 4 * 10 ** 198, -10 ** 198),
    ]


def points():
    return list(product((-3, -1, 0, 1, 2), repeat=2)) + [(GREAT, -2), (-10 ** 1999, GREAT)]


def is_whole(thing):
    return type(thing) is int


def is_tuple_of_wholes(thing, length):
    return type(thing) is tuple and len(thing) == length and all(is_whole(number) for number in thing)
