"""The names and arguments of the document's interface, as they stand there."""

import importlib
import inspect
import unittest

ARGUMENTS = {
    "formcycle.errors": {
        "NoTurn": ["turn"],
        "NoShape": ["form"],
        "TooGreat": ["number", "most"],
        "NoRoot": ["number"],
        "NotLevel": ["form"],
        "NotOwn": ["turn"],
        "NotPlain": ["form"],
        "NoMeasure": ["number"],
        "NoAnswer": ["point"],
    },
    "formcycle.wholes": {
        "divisor": ["one", "other"],
        "shares": ["one", "other"],
        "root": ["number"],
        "is_square": ["number"],
        "powered": ["thing", "count", "put", "first"],
    },
    "formcycle.turns": {
        "is_turn": ["turn"],
        "led": ["turn", "point"],
        "then": ["one", "other"],
        "back": ["turn"],
        "times": ["turn", "count"],
    },
    "formcycle.forms": {
        "measure": ["form"],
        "value": ["form", "point"],
        "content": ["form"],
        "moved": ["form", "turn"],
        "opposite": ["form"],
        "shape": ["form"],
    },
    "formcycle.bowls": {
        "is_least": ["form"],
        "settled": ["form"],
        "own_turns": ["form"],
    },
    "formcycle.saddles": {
        "is_level": ["form"],
        "after": ["form"],
        "eased": ["form"],
        "round_of": ["form"],
        "step_of": ["form"],
        "power_of": ["form", "turn"],
    },
    "formcycle.shapes": {
        "shape_of": ["form"],
        "least_of": ["form"],
        "alike": ["one", "other"],
    },
    "formcycle.products": {
        "product": ["one", "other"],
        "joined": ["rows", "one", "other"],
    },
    "formcycle.classes": {
        "unit": ["number"],
        "classes": ["number"],
        "table": ["number"],
        "power": ["form", "count"],
        "order_of": ["form"],
    },
    "formcycle.answers": {
        "heads": ["form", "number"],
        "whence": ["form", "number", "point"],
        "all_answers": ["form", "number"],
    },
    "formcycle.chains": {
        "chain": ["number"],
        "part": ["number", "k"],
        "fraction": ["number", "k"],
        "plus_one": ["number"],
        "minus_one": ["number"],
    },
    "formcycle.near": {
        "nearest": ["number", "most"],
    },
}

METHODS = {"least": ["self"], "leaves": ["self", "turn"], "way_to": ["self", "other"]}


class Interface(unittest.TestCase):
    def test_names_and_arguments(self):
        for module, functions in ARGUMENTS.items():
            for name, arguments in functions.items():
                asked = getattr(importlib.import_module(module), name)
                self.assertEqual(list(inspect.signature(asked).parameters), arguments, (module, name))

    def test_methods_of_shapes(self):
        shapes = importlib.import_module("formcycle.shapes")
        for kind in (shapes.Shape, shapes.Bowl, shapes.Saddle):
            for name, arguments in METHODS.items():
                self.assertEqual(list(inspect.signature(getattr(kind, name)).parameters), arguments, (kind, name))


if __name__ == "__main__":
    unittest.main()
