"""The refusals: one class for each reason, all under FormError.

An error keeps what it is made of by itself, so a class sets its fields and no words of its own:
words with the numbers in them could not be written where a number is very long.
"""


class FormError(ValueError):
    pass


class NoTurn(FormError):
    def __init__(self, turn):
        self.turn = turn


class NoShape(FormError):
    def __init__(self, form):
        self.form = form


class TooGreat(FormError):
    def __init__(self, number, most):
        self.number = number
        self.most = most


class NoRoot(FormError):
    def __init__(self, number):
        self.number = number


class NotLevel(FormError):
    def __init__(self, form):
        self.form = form


class NotOwn(FormError):
    def __init__(self, turn):
        self.turn = turn


class Apart(FormError):
    pass


class NotPlain(FormError):
    def __init__(self, form):
        self.form = form


class NoMeasure(FormError):
    def __init__(self, number):
        self.number = number


class Nought(FormError):
    pass


class NoAnswer(FormError):
    def __init__(self, point):
        self.point = point
