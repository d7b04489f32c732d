"""Classes: those of a measure, its unit and its table, and the powers and the order of a form (points 22 and 23)."""

from formcycle.bowls import stands_least
from formcycle.errors import NoMeasure
from formcycle.forms import content, opposite
from formcycle.products import check_plain, product
from formcycle.saddles import MOST_MEASURE, round_of, stands_level
from formcycle.shapes import least_of, shape_of
from formcycle.wholes import check_at_most, check_within, is_square, powered, root

MOST_OF_TABLE = 400


def check_measure(number):
    if number % 4 > 1 or is_square(number):
        raise NoMeasure(number)


def unit(number):
    check_measure(number)
    check_at_most(number, MOST_MEASURE)
    middle = number % 4
    return least_of((1, middle, (middle - number) // 4))


def classes(number):
    check_measure(number)
    check_within(number, MOST_MEASURE)
    if number < 0:
        return least_bowls(number)
    return least_saddles(number)


# In a least bowl b b is at most a a and c at least a, so 3 a a is at most 4 a c - b b.
def least_bowls(number):
    return [form for form in plain_forms(number, root(-number // 3)) if stands_least(form)]


# In a level form neither a nor b is beyond the root of the measure.
def least_saddles(number):
    far = root(number)
    found = []
    seen = {}
    for form in plain_forms(number, far):
        if stands_level(form, far) and form not in seen:
            # The forms come in order, so the first one of a ring is its least.
            found.append(form)
            for other in round_of(form):
                seen[other] = True
    return found


# In order, those whose first and middle number lie within the bound.
def plain_forms(number, most):
    found = []
    for a in range(-most, most + 1):
        for b in range(-most, most + 1):
            if a != 0 and (b * b - number) % (4 * a) == 0:
                found.append((a, b, (b * b - number) // (4 * a)))
    return [form for form in found if content(form) == 1]


def table(number):
    check_measure(number)
    check_within(number, MOST_OF_TABLE)
    forms = classes(number)
    return [row_of_table(forms, form) for form in forms]


def row_of_table(forms, one):
    return [forms.index(least_product(one, other)) for other in forms]


def least_product(one, other):
    return product(one, other)[0]


def power(form, count):
    whole = shape_of(form)
    check_plain(form)
    if count < 0:
        return powered(least_of(opposite(form)), -count, least_product, unit(whole.measure))
    return powered(whole.least()[0], count, least_product, unit(whole.measure))


def order_of(form):
    whole = shape_of(form)
    check_within(whole.measure, MOST_MEASURE)
    check_plain(form)
    first = unit(whole.measure)
    lowest = whole.least()[0]
    # The order is at most the number of classes, and within the bound of the measure these are few.
    came = lowest
    count = 1
    while came != first:
        came = least_product(came, lowest)
        count += 1
    return count
