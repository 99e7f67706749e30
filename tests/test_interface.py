"""The names of the interface: where they are defined, with which parameters, and as what."""

import importlib
import inspect
import unittest

ERRORS_BY_PARAMETER = {
    "value": [
        "InvalidColumns", "InvalidRow", "InvalidBox", "InvalidQuery", "InvalidEvent", "InvalidText", "InvalidName",
        "InvalidNumber",
    ],
    "word": ["InvalidCommand", "UnknownName", "NameTaken"],
    "position": ["InvalidSyntax"],
    "stream": ["UnknownStream", "MixedUse"],
    "index": ["BrokenPromise"],
    "line": ["DamagedJournal"],
}
FUNCTIONS = {
    "columns": {"is_word": ["value"], "is_columns": ["value"], "is_row": ["columns", "value"]},
    "boxes": {"covers": ["boxes", "box"], "uncovered": ["boxes", "box"], "merged": ["one", "other"]},
}
CLASSES = {
    "boxes": {
        "Box": {
            "__init__": ["columns", "limits"],
            "limits": [],
            "is_inside": ["other"],
            "number": [],
            "some_row": [],
            "__contains__": None,
            "__eq__": None,
            "__and__": None,
            "__sub__": None,
            "__bool__": None,
        },
    },
}
PROPERTIES = {"boxes": {"Box": ["columns"]}}


def part_of(module, name):
    """Returns what a module of the package calls so."""
    return vars(importlib.import_module("surestreams." + module))[name]


def parameters(call):
    """Returns the names of the parameters, all of which take an argument by position or by name."""
    found = inspect.signature(call).parameters.values()
    assert all(each.kind == each.POSITIONAL_OR_KEYWORD and each.default is each.empty for each in found)
    return [each.name for each in found]


class InterfaceTest(unittest.TestCase):
    def test_errors(self):
        self.assertEqual(part_of("errors", "StreamError").__module__, "surestreams.errors")
        for parameter, names in ERRORS_BY_PARAMETER.items():
            for name in names:
                with self.subTest(name):
                    error = part_of("errors", name)
                    self.assertEqual(error.__module__, "surestreams.errors")
                    self.assertEqual(parameters(vars(error)["__init__"]), ["self", parameter])

    def test_functions(self):
        for module, functions in FUNCTIONS.items():
            for name, names in functions.items():
                with self.subTest(name):
                    function = part_of(module, name)
                    self.assertTrue(inspect.isfunction(function))
                    self.assertEqual(function.__module__, "surestreams." + module)
                    self.assertEqual(parameters(function), names)

    def test_classes(self):
        for module, classes in CLASSES.items():
            for name, methods in classes.items():
                made = part_of(module, name)
                self.assertEqual(made.__module__, "surestreams." + module)
                for method, names in methods.items():
                    with self.subTest(name, method=method):
                        self.assertIn(method, vars(made))
                        self.assertIn(names, (None, parameters(vars(made)[method])[1:]))

    def test_properties(self):
        for module, classes in PROPERTIES.items():
            for name, properties in classes.items():
                for each in properties:
                    with self.subTest(name, property=each):
                        self.assertIsInstance(vars(part_of(module, name))[each], property)


if __name__ == "__main__":
    unittest.main()
