"""Shapes: bowls and saddles as objects, least forms, and what is alike (points 18 and 19)."""

from formcycle.bowls import settled
from formcycle.forms import measure, moved, shape
from formcycle.saddles import lowered
from formcycle.turns import back, put_behind


class Shape:
    # The least form is looked for when the object is made, so that no question can change what a later one is told.
    def __init__(self, form, lowest):
        self.form = form
        self.measure = measure(form)
        self.lowest = lowest

    def least(self):
        return self.lowest

    def leaves(self, turn):
        return moved(self.form, turn) == self.form

    def way_to(self, other):
        # A form of the same measure that is no dome has a shape: the measure is no square, and not too great.
        if measure(other) != self.measure or shape(other) == "dome":
            return None
        return way_between(self.lowest, shape_of(other).lowest)


class Bowl(Shape):
    def __init__(self, form):
        Shape.__init__(self, form, settled(form))


class Saddle(Shape):
    def __init__(self, form):
        Shape.__init__(self, form, lowered(form))


def shape_of(form):
    if shape(form) == "bowl":
        return Bowl(form)
    # What is no saddle either, or one of too great a measure, is refused on the way to its least form.
    return Saddle(form)


# Both are handed in as the tuple (least form, turn).
def way_between(one, other):
    if one[0] != other[0]:
        return None
    return put_behind(one[1], back(other[1]))


def least_of(form):
    return shape_of(form).lowest[0]


def alike(one, other):
    first = shape_of(one)
    second = shape_of(other)
    return way_between(first.lowest, second.lowest)
