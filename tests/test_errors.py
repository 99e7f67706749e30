"""The head of the interface, and surestreams/errors.py."""

import unittest

from surestreams import errors

FIELDS_OF_STREAM_ERRORS = {
    "InvalidColumns": "value",
    "InvalidRow": "value",
    "InvalidBox": "value",
    "InvalidQuery": "value",
    "InvalidEvent": "value",
    "InvalidText": "value",
    "InvalidCommand": "word",
    "InvalidSyntax": "position",
    "InvalidName": "value",
    "InvalidNumber": "value",
}
OTHERS = {
    "UnknownStream": (KeyError, "stream"),
    "BrokenPromise": (RuntimeError, "index"),
    "MixedUse": (RuntimeError, "stream"),
    "UnknownName": (KeyError, "word"),
    "NameTaken": (RuntimeError, "word"),
    "DamagedJournal": (RuntimeError, "line"),
}
ARGUMENTS = [None, True, 0, -3, "", "ann", "a b", (), ("ann", 3), [], [1, [2]], {}, {"a": 1}, {1, 2}, object(), 1.5, b"x"]


def fields():
    """Returns a dict from all names of classes with a field to the field."""
    return {**FIELDS_OF_STREAM_ERRORS, **{name: field for name, (_, field) in OTHERS.items()}}


class ErrorsTest(unittest.TestCase):
    def test_stream_error_is_a_value_error(self):
        self.assertEqual(errors.StreamError.__bases__, (ValueError,))

    def test_stream_errors_are_direct_subclasses(self):
        for name in FIELDS_OF_STREAM_ERRORS:
            with self.subTest(name):
                self.assertEqual(getattr(errors, name).__bases__, (errors.StreamError,))

    def test_other_errors_have_their_base_and_are_no_stream_errors(self):
        for name, (base, _) in OTHERS.items():
            with self.subTest(name):
                self.assertEqual(getattr(errors, name).__bases__, (base,))
                self.assertFalse(issubclass(getattr(errors, name), errors.StreamError))

    def test_none_is_a_subclass_of_another(self):
        for name in fields():
            for other in fields():
                with self.subTest(name, other=other):
                    found = issubclass(getattr(errors, name), getattr(errors, other))
                    self.assertEqual(found, name == other)

    def test_fields_hold_the_argument_by_position_and_by_name(self):
        for name, field in fields().items():
            made = getattr(errors, name)
            for argument in ARGUMENTS:
                with self.subTest(name, argument=argument):
                    self.assertIs(getattr(made(argument), field), argument)
                    self.assertIs(getattr(made(**{field: argument}), field), argument)
                    self.assertEqual(vars(made(argument)), {field: argument})

    def test_an_argument_is_needed_and_only_one(self):
        for name in fields():
            with self.subTest(name):
                self.assertRaises(TypeError, getattr(errors, name))
                self.assertRaises(TypeError, getattr(errors, name), 1, 2)

    def test_they_are_raised_and_caught_by_their_base(self):
        for name in FIELDS_OF_STREAM_ERRORS:
            with self.subTest(name), self.assertRaises(errors.StreamError):
                raise getattr(errors, name)("x")
        for name, (base, _) in OTHERS.items():
            with self.subTest(name), self.assertRaises(base):
                raise getattr(errors, name)("x")

    def test_there_are_no_other_errors(self):
        found = {name for name in vars(errors) if isinstance(vars(errors)[name], type)}
        self.assertEqual(found, set(fields()) | {"StreamError"})


if __name__ == "__main__":
    unittest.main()
