"""The names of the interface: where they are defined, with which parameters, and as what."""

import importlib
import inspect
import unittest

ERRORS_BY_PARAMETER = {
    "value": [
        "InvalidColumns", "InvalidRow", "InvalidBox", "InvalidQuery", "InvalidEvent", "InvalidText", "InvalidName",
        "InvalidNumber",
    ],
    "word": ["InvalidCommand", "UnknownName", "NameTaken"],
    "position": ["InvalidSyntax"],
    "stream": ["UnknownStream", "MixedUse"],
    "index": ["BrokenPromise"],
    "line": ["DamagedJournal"],
}
FUNCTIONS = {
    "columns": {"is_word": ["value"], "is_columns": ["value"], "is_row": ["columns", "value"]},
    "boxes": {"covers": ["boxes", "box"], "uncovered": ["boxes", "box"], "merged": ["one", "other"]},
    "queries": {"source": ["name", "columns"]},
    "bounds": {
        "present": ["query", "streams"],
        "sure": ["query", "streams"],
        "is_possible": ["query", "streams", "row"],
        "possible_boxes": ["query", "streams"],
    },
    "papers": {
        "removal": ["engine", "row"],
        "is_removal": ["engine", "row", "value"],
        "reasons": ["engine", "row"],
        "is_reason": ["engine", "row", "value"],
    },
    "groups": {
        "counts": ["query", "streams", "keys"],
        "sums": ["query", "streams", "keys", "column"],
        "leasts": ["query", "streams", "keys", "column"],
        "greatests": ["query", "streams", "keys", "column"],
        "firsts": ["query", "streams", "column", "number"],
    },
    "rewriting": {"rewrites": ["query"], "is_rewriting": ["value"], "pushed": ["query"]},
    "formats": {
        "format_row": ["columns", "row"],
        "format_limits": ["columns", "limits"],
        "parse_row": ["columns", "text"],
        "parse_limits": ["columns", "text"],
    },
    "certificates": {
        "certificate": ["query", "streams", "row"],
        "is_certificate": ["query", "streams", "row", "value"],
        "exclusion": ["query", "streams", "limits"],
        "is_exclusion": ["query", "streams", "limits", "value"],
        "is_settled": ["query", "streams", "limits"],
    },
    "audit": {"report": ["query", "events"], "is_report": ["query", "value"]},
    "language": {"parse_query": ["text", "known"], "format_query": ["query"]},
}
CLASSES = {
    "boxes": {
        "Box": {
            "__init__": ["columns", "limits"],
            "limits": [],
            "is_inside": ["other"],
            "number": [],
            "some_row": [],
            "__contains__": None,
            "__eq__": None,
            "__and__": None,
            "__sub__": None,
            "__bool__": None,
        },
    },
    "streams": {
        "Stream": {
            "__init__": ["name", "columns"],
            "add": ["row"],
            "promise": ["limits"],
            "rows": [],
            "promises": [],
            "is_open": ["row"],
            "closed": ["limits"],
            "open_boxes": ["limits"],
            "superfluous": [],
            "copy": [],
            "__contains__": None,
            "__len__": None,
        },
    },
    "queries": {
        "Query": {
            "where": ["column", "sign", "value"],
            "renamed": ["old", "new"],
            "closure": [],
            "streams": [],
            "side": ["name"],
            "parts": [],
            "__getitem__": None,
            "__and__": None,
            "__or__": None,
            "__sub__": None,
            "__eq__": None,
        },
    },
    "engine": {
        "Engine": {
            "__init__": ["query"],
            "row": ["name", "row"],
            "promise": ["name", "limits"],
            "out": [],
            "waiting": [],
            "events": [],
            "stream_of": ["name"],
            "feed": ["events"],
            "tried": ["events"],
            "subscribe": ["call"],
            "copy": [],
        },
        "Recorder": {"__init__": [], "rows": [], "__call__": ["row"], "__len__": None},
    },
    "console": {"Console": {"__init__": ["query"], "execute": ["command"]}},
    "hub": {
        "Hub": {
            "__init__": [],
            "declare": ["name", "columns"],
            "define": ["name", "text"],
            "drop": ["name"],
            "commit": ["events"],
            "subscribe": ["name", "view"],
            "acknowledge": ["name", "number"],
            "pending": ["name"],
            "streams": [],
            "views": [],
            "subscribers": [],
            "stream_of": ["name"],
            "query_of": ["name"],
            "out": ["name"],
            "waiting": ["name"],
            "journal": [],
            "as_of": ["number"],
            "compacted": [],
        },
    },
    "terminal": {"Terminal": {"__init__": [], "execute": ["command"]}},
}
CLASS_METHODS = {"engine": {"Engine": {"replayed": ["query", "events"]}}, "hub": {"Hub": {"recovered": ["text"]}}}
GENERATORS = {"engine": {"Engine": ["feed"]}, "rewriting": {None: ["rewrites"]}}
PROPERTIES = {
    "boxes": {"Box": ["columns"]},
    "streams": {"Stream": ["name", "columns"]},
    "queries": {"Query": ["columns"]},
    "engine": {"Engine": ["query"]},
}


def part_of(module, name):
    """Returns what a module of the package calls so."""
    return vars(importlib.import_module("surestreams." + module))[name]


def parameters(call):
    """Returns the names of the parameters, all of which take an argument by position or by name."""
    found = inspect.signature(call).parameters.values()
    assert all(each.kind == each.POSITIONAL_OR_KEYWORD and each.default is each.empty for each in found)
    return [each.name for each in found]


class InterfaceTest(unittest.TestCase):
    def test_errors(self):
        self.assertEqual(part_of("errors", "StreamError").__module__, "surestreams.errors")
        for parameter, names in ERRORS_BY_PARAMETER.items():
            for name in names:
                with self.subTest(name):
                    error = part_of("errors", name)
                    self.assertEqual(error.__module__, "surestreams.errors")
                    self.assertEqual(parameters(vars(error)["__init__"]), ["self", parameter])

    def test_functions(self):
        for module, functions in FUNCTIONS.items():
            for name, names in functions.items():
                with self.subTest(name):
                    function = part_of(module, name)
                    self.assertTrue(inspect.isfunction(function))
                    self.assertEqual(function.__module__, "surestreams." + module)
                    self.assertEqual(parameters(function), names)

    def test_classes(self):
        for module, classes in CLASSES.items():
            for name, methods in classes.items():
                made = part_of(module, name)
                self.assertEqual(made.__module__, "surestreams." + module)
                for method, names in methods.items():
                    with self.subTest(name, method=method):
                        self.assertIn(method, vars(made))
                        self.assertIn(names, (None, parameters(vars(made)[method])[1:]))

    def test_class_methods(self):
        for module, classes in CLASS_METHODS.items():
            for name, methods in classes.items():
                for method, names in methods.items():
                    with self.subTest(name, method=method):
                        found = vars(part_of(module, name))[method]
                        self.assertIsInstance(found, classmethod)
                        self.assertEqual(parameters(found.__func__)[1:], names)

    def test_generators(self):
        for module, classes in GENERATORS.items():
            for name, functions in classes.items():
                for function in functions:
                    with self.subTest(function):
                        found = part_of(module, function) if name is None else vars(part_of(module, name))[function]
                        self.assertTrue(inspect.isgeneratorfunction(found))

    def test_properties(self):
        for module, classes in PROPERTIES.items():
            for name, properties in classes.items():
                for each in properties:
                    with self.subTest(name, property=each):
                        self.assertIsInstance(vars(part_of(module, name))[each], property)


if __name__ == "__main__":
    unittest.main()
