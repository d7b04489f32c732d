import copy
import pickle
import unittest

from formcycle import errors

FIELDS = {
    "NoTurn": ("turn",),
    "NoShape": ("form",),
    "TooGreat": ("number", "most"),
    "NoRoot": ("number",),
    "NotLevel": ("form",),
    "NotOwn": ("turn",),
    "Apart": (),
    "NotPlain": ("form",),
    "NoMeasure": ("number",),
    "Nought": (),
    "NoAnswer": ("point",),
}

WRONG_COUNTS_OF_FIELDS = [(name, len(fields) + more) for name, fields in FIELDS.items() if fields for more in (-1, 1)]


def made(name):
    return getattr(errors, name)(*[(name, field) for field in FIELDS[name]])


class Standing(unittest.TestCase):
    def test_form_error_stands_under_value_error(self):
        self.assertEqual(errors.FormError.__bases__, (ValueError,))

    def test_each_class_stands_under_form_error_alone(self):
        for name in FIELDS:
            self.assertEqual(getattr(errors, name).__bases__, (errors.FormError,), name)

    def test_none_stands_under_another_one(self):
        for name in FIELDS:
            for other in FIELDS:
                stands = issubclass(getattr(errors, name), getattr(errors, other))
                self.assertEqual(stands, name == other, (name, other))

    def test_a_refusal_is_taken_as_form_error_and_as_value_error(self):
        for name in FIELDS:
            for above in (errors.FormError, ValueError):
                with self.assertRaises(above):
                    raise made(name) if FIELDS[name] else getattr(errors, name)("words")


class Making(unittest.TestCase):
    def test_fields_are_set_in_the_order_told(self):
        for name, fields in FIELDS.items():
            if fields:
                error = made(name)
                self.assertEqual(vars(error), {field: (name, field) for field in fields}, name)

    def test_a_field_has_the_very_thing(self):
        thing = (1, 2, 3, 4)
        self.assertIs(errors.NoTurn(thing).turn, thing)

    def test_other_counts_of_fields_make_no_error(self):
        for name, count in WRONG_COUNTS_OF_FIELDS:
            with self.assertRaises(TypeError, msg=name):
                getattr(errors, name)(*range(count))

    def test_those_without_fields_are_made_of_a_text(self):
        for name in ("FormError", "Apart", "Nought"):
            error = getattr(errors, name)("some words")
            self.assertEqual(str(error), "some words", name)
            self.assertEqual(vars(error), {}, name)

    def test_fields_of_very_long_numbers(self):
        number = 10 ** 5000
        self.assertEqual(errors.TooGreat(-number, 400).number, -number)
        self.assertEqual(errors.NoTurn((number, 0, 0, number)).turn, (number, 0, 0, number))

    def test_copies_have_the_fields_too(self):
        for name, fields in FIELDS.items():
            if fields:
                for error in (copy.deepcopy(made(name)), pickle.loads(pickle.dumps(made(name)))):
                    self.assertEqual(vars(error), vars(made(name)), name)


if __name__ == "__main__":
    unittest.main()
