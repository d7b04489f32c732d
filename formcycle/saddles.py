"""Saddles: level forms and their rounds, the step, and own turns told by sign and count (points 13 to 17)."""

from formcycle.errors import NoShape, NotLevel, NotOwn
from formcycle.forms import content, measure, moved, shape
from formcycle.turns import SAME, back, check_turn, put_behind
from formcycle.wholes import check_at_most, root

MOST_MEASURE = 4000


def check_saddle(form):
    if shape(form) != "saddle":
        raise NoShape(form)
    check_at_most(measure(form), MOST_MEASURE)


def is_level(form):
    check_saddle(form)
    return stands_level(form, root(measure(form)))


def stands_level(form, far):
    b = form[1]
    return 0 < b <= far and far - b < 2 * abs(form[0]) <= far + b


def after(form):
    check_saddle(form)
    far = root(measure(form))
    if not stands_level(form, far):
        raise NotLevel(form)
    return moved(form, turn_behind(form, far))


# The turn (0, -1, 1, k) whose d is the greatest one up to top.
def turn_behind(form, top):
    b = form[1]
    c = form[2]
    d = top - (top + b) % (2 * abs(c))
    return (0, -1, 1, (b + d) // (2 * c))


# A stop is a tuple (form, turn): the turn moves the form that was handed in to the stop's form.
def stop_behind(stop, top):
    turn = turn_behind(stop[0], top)
    return (moved(stop[0], turn), put_behind(stop[1], turn))


def eased(form):
    check_saddle(form)
    far = root(measure(form))
    stop = (form, SAME)
    while not stands_level(stop[0], far):
        stop = stop_behind(stop, max(abs(stop[0][2]), far))
    return stop


# The stops of a whole round; the last one has the first one's form again.
def stops_round(form):
    far = root(measure(form))
    first = eased(form)
    stops = [first]
    stop = stop_behind(first, far)
    while stop[0] != first[0]:
        stops.append(stop)
        stop = stop_behind(stop, far)
    stops.append(stop)
    return stops


def round_of(form):
    check_saddle(form)
    forms = [stop[0] for stop in stops_round(form)[1:]]
    place = forms.index(min(forms))
    return forms[place:] + forms[:place]


# The first form of the round, with a turn that moves the form to it.
def lowered(form):
    check_saddle(form)
    return min(stops_round(form))


def step_of(form):
    check_saddle(form)
    common = content(form)
    plain = (form[0] // common, form[1] // common, form[2] // common)
    pair = step_pair(form, plain[0])
    t = pair[0]
    u = pair[1]
    return ((t - plain[1] * u) // 2, -plain[2] * u, plain[0] * u, (t + plain[1] * u) // 2)


# The numbers t and u of the step: the turn once round has them too, though perhaps with other signs.
def step_pair(form, plain_first):
    stops = stops_round(form)
    once = put_behind(stops[-1][1], back(stops[0][1]))
    return (abs(once[0] + once[3]), abs(once[2] // plain_first))


def power_of(form, turn):
    check_saddle(form)
    check_turn(turn)
    if moved(form, turn) != form:
        raise NotOwn(turn)
    # The first and the last number of the step so many times are together above nought, whatever the count.
    sign = 1 if turn[0] + turn[3] > 0 else -1
    count = count_without_sign(step_of(form), abs(turn[2]))
    # The third number has the sign of a where the count is above nought, and the other one below it.
    if sign * turn[2] * form[0] < 0:
        count = -count
    return (sign, count)


# The third number, without its sign, grows with the count: the count is found figure by figure, the highest first.
def count_without_sign(step, third):
    doubled = [step]
    while abs(doubled[-1][2]) < third:
        doubled.append(put_behind(doubled[-1], doubled[-1]))
    count = 0
    came = SAME
    for place in range(len(doubled) - 1, -1, -1):
        further = put_behind(came, doubled[place])
        if abs(further[2]) <= third:
            came = further
            count += 1 << place
    return count
