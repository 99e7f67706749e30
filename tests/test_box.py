"""Point 5: limits, the rows of one box, number and some_row."""

import unittest

from surestreams.boxes import Box
from surestreams.errors import InvalidBox, InvalidColumns
from tests.worlds import MIXED, all_boxes, rows_in, rows_of, world

WHO = (("who", "word"),)
DAY = (("day", "number"),)
THREE = (("a", "word"), ("b", "number"), ("c", "word"))

# Each limit with its one form; None for a limit that allows all values.
NUMBER_FORMS = [
    (3, (3, 3)), (0, (0, 0)), (10 ** 50, (10 ** 50, 10 ** 50)), ((1, 7), (1, 7)), ((7, 7), (7, 7)), ((0, 0), (0, 0)),
    ((None, 7), (0, 7)), ((None, 0), (0, 0)), ((0, 7), (0, 7)), ((3, None), (3, None)), ((1, None), (1, None)),
    ((None, None), None), ((0, None), None), ((7, 1), (7, 1)), ((1, 0), (1, 0)),
]
WORD_FORMS = [
    ("ann", ("in", "ann")), ("in", ("in", "in")), ("not", ("in", "not")), (("in",), ("in",)), (("not",), None),
    (("in", "ann"), ("in", "ann")), (("in", "b", "a"), ("in", "a", "b")), (("not", "b", "a"), ("not", "a", "b")),
    (("in", "a", "a", "a"), ("in", "a")), (("not", "b", "a", "b"), ("not", "a", "b")), (("in", "not"), ("in", "not")),
    (("not", "in"), ("not", "in")), (("in", "in", "not"), ("in", "in", "not")), (("not", "not"), ("not", "not")),
    (("in", "aa", "b", "ab", "a"), ("in", "a", "aa", "ab", "b")),
]
NO_NUMBER_LIMITS = [
    None, True, False, -1, "3", "ann", "", 1.0, [], [1, 2], (), (1,), (1, 2, 3), (True, 3), (0, True), (False, None),
    (None, False), (-1, 3), (0, -1), (1.0, 2), ("in", 3), ("a", "b"), ("in",), ("not",), ((1, 2),), ([1], 2), {}, {1: 2},
    {1, 2}, b"ab", object(), int, ("in", "ann"), (None,), (None, None, None),
]
NO_WORD_LIMITS = [
    None, True, False, 0, 1, -1, "", "Ann", "a b", "ann1", (), ("ann",), ("ann", "bob"), ("or", "ann"), ("In", "ann"),
    ("in", ""), ("in", "Ann"), ("in", 3), ("in", True), ("in", None), ("not", None), ("in", "a", ("b",)), ("in", ["a"]),
    ("in", ("a", "b")), ["in", "a"], ["not"], ["a"], (1, 2), (None, None), (0, None), ("", "a"), (None, "a"), (True,),
    {"in": "a"}, {"in", "a"}, {}, b"ann", object(), str, (["in"], "a"), ("not", "a", "B"),
]
NO_DICTS = [None, True, 0, "who", "", (), [], [("who", "ann")], (("who", "ann"),), {"who"}, set(), object(), dict, b""]


class MadeTest(unittest.TestCase):
    def refused(self, columns, limits):
        with self.subTest(columns=columns, limits=limits):
            with self.assertRaises(InvalidBox) as caught:
                Box(columns, limits)
            self.assertIs(caught.exception.value, limits)

    def test_columns(self):
        for columns in (WHO, DAY, MIXED, THREE):
            self.assertEqual(Box(columns, {}).columns, columns)

    def test_forms_of_number_limits(self):
        for limit, form in NUMBER_FORMS:
            with self.subTest(limit=limit):
                box = Box(DAY, {"day": limit})
                self.assertEqual(box.limits(), {} if form is None else {"day": form})

    def test_forms_of_word_limits(self):
        for limit, form in WORD_FORMS:
            with self.subTest(limit=limit):
                box = Box(WHO, {"who": limit})
                self.assertEqual(box.limits(), {} if form is None else {"who": form})

    def test_the_one_form_gives_the_same_box(self):
        for columns, forms in ((WHO, WORD_FORMS), (DAY, NUMBER_FORMS)):
            for limit, _ in forms:
                with self.subTest(limit=limit):
                    box = Box(columns, {columns[0][0]: limit})
                    again = Box(columns, box.limits())
                    self.assertEqual(again, box)
                    self.assertEqual(again.limits(), box.limits())

    def test_limits_of_several_columns(self):
        box = Box(THREE, {"c": ("not", "b", "a"), "b": (None, None), "a": "x"})
        self.assertEqual(box.limits(), {"a": ("in", "x"), "c": ("not", "a", "b")})
        self.assertEqual(Box(THREE, {}).limits(), {})
        self.assertEqual(Box(THREE, {"b": 5}).limits(), {"b": (5, 5)})

    def test_kinds_of_the_values_of_limits(self):
        form = Box(MIXED, {"who": "ann", "day": (None, 4)}).limits()
        self.assertIs(type(form), dict)
        self.assertIs(type(form["who"]), tuple)
        self.assertIs(type(form["day"]), tuple)
        self.assertIs(type(form["day"][0]), int)

    def test_no_number_limits(self):
        for limit in NO_NUMBER_LIMITS:
            self.refused(DAY, {"day": limit})
            self.refused(MIXED, {"who": "ann", "day": limit})

    def test_no_word_limits(self):
        for limit in NO_WORD_LIMITS:
            self.refused(WHO, {"who": limit})
            self.refused(MIXED, {"day": 3, "who": limit})

    def test_no_dicts(self):
        for limits in NO_DICTS:
            self.refused(MIXED, limits)

    def test_unknown_columns_in_limits(self):
        for name in ["day", "Who", "", "whom", None, 0, True, ("who",), ("who", "word"), b"who", 1.5, str]:
            self.refused(WHO, {name: "ann"})
            self.refused(WHO, {"who": "ann", name: "ann"})
            self.refused(WHO, {name: (1, 2)})

    def test_invalid_columns_come_first(self):
        for columns in [None, (), [], [("who", "word")], ("who", "word"), (("who", "word"),) * 2, (("who", "text"),), "who"]:
            for limits in [{}, None, {"who": 3}]:
                with self.subTest(columns=columns, limits=limits):
                    with self.assertRaises(InvalidColumns) as caught:
                        Box(columns, limits)
                    self.assertIs(caught.exception.value, columns)

    def test_by_name(self):
        self.assertEqual(Box(limits={"who": "ann"}, columns=WHO), Box(WHO, {"who": "ann"}))

    def test_the_argument_may_change_afterwards(self):
        limits = {"who": ("in", "ann"), "day": (1, 7)}
        box = Box(MIXED, limits)
        self.assertEqual(limits, {"who": ("in", "ann"), "day": (1, 7)})
        limits["who"] = "bob"
        del limits["day"]
        self.assertEqual(box.limits(), {"who": ("in", "ann"), "day": (1, 7)})
        self.assertIn(("ann", 1), box)
        self.assertNotIn(("bob", 1), box)

    def test_the_returned_limits_may_change_afterwards(self):
        box = Box(MIXED, {"who": "ann"})
        self.assertIsNot(box.limits(), box.limits())
        box.limits().clear()
        box.limits()["day"] = (9, 9)
        self.assertEqual(box.limits(), {"who": ("in", "ann")})
        self.assertIn(("ann", 1), box)

    def test_columns_are_not_assigned(self):
        with self.assertRaises(AttributeError):
            Box(WHO, {}).columns = DAY


class ContainsTest(unittest.TestCase):
    def test_at_and_beside_the_bounds(self):
        cases = [
            ((3, 5), [3, 4, 5], [0, 2, 6, 10 ** 30]), ((None, 5), [0, 4, 5], [6, 7]), ((3, None), [3, 4, 10 ** 50], [0, 2]),
            (4, [4], [0, 3, 5]), ((5, 3), [], [0, 2, 3, 4, 5, 6]), ((None, None), [0, 1, 10 ** 50], []),
            ((4, 4), [4], [3, 5]), ((None, 0), [0], [1]), (0, [0], [1]),
        ]
        for limit, inside, beside in cases:
            with self.subTest(limit=limit):
                box = Box(DAY, {"day": limit})
                self.assertEqual([number for number in inside + beside if (number,) in box], inside)

    def test_words(self):
        cases = [
            ("ann", ["ann"], ["an", "anna", "bob"]), (("in",), [], ["in", "ann"]), (("not",), ["not", "in", "ann"], []),
            (("in", "a", "b"), ["a", "b"], ["c", "in", "ab"]), (("not", "a", "b"), ["c", "not", "ab"], ["a", "b"]),
            (("in", "in", "not"), ["in", "not"], ["a"]), ("not", ["not"], ["in", "a"]), (("not", "not"), ["in"], ["not"]),
        ]
        for limit, inside, beside in cases:
            with self.subTest(limit=limit):
                box = Box(WHO, {"who": limit})
                self.assertEqual([word for word in inside + beside if (word,) in box], inside)

    def test_all_limits_count(self):
        box = Box(THREE, {"a": "x", "b": (2, 4), "c": ("not", "z")})
        self.assertIn(("x", 3, "y"), box)
        for row in [("y", 3, "y"), ("x", 5, "y"), ("x", 1, "y"), ("x", 3, "z")]:
            self.assertNotIn(row, box)

    def test_values_that_are_no_rows(self):
        box = Box(MIXED, {})
        for value in [
            None, True, 0, "ann", "an", (), ("ann",), ("ann", 3, 3), (3, "ann"), ["ann", 3], ("ann", True), ("ann", -1),
            ("Ann", 3), ("", 3), ("ann", "3"), ("ann", None), (None, 3), (("ann", 3),), {"ann": 3}, {"who": "ann"}, [],
            {}, set(), object(), box, (["ann"], 3), ("ann", [3]), ("ann", 3.0), tuple,
        ]:
            with self.subTest(value=value):
                self.assertIs(value in box, False)

    def test_like_the_document_for_all_boxes(self):
        for box in all_boxes(MIXED):
            with self.subTest(limits=box.limits()):
                self.assertEqual(rows_in(box), rows_of(MIXED, box.limits()))


class CountTest(unittest.TestCase):
    def test_numbers_of_rows(self):
        cases = [
            (DAY, {"day": (3, 5)}, 3), (DAY, {"day": 3}, 1), (DAY, {"day": (None, 5)}, 6), (DAY, {"day": (5, None)}, None),
            (DAY, {}, None), (DAY, {"day": (5, 3)}, 0), (DAY, {"day": (1, 10 ** 40)}, 10 ** 40),
            (WHO, {"who": "ann"}, 1), (WHO, {"who": ("in",)}, 0), (WHO, {"who": ("in", "a", "b", "a")}, 2),
            (WHO, {"who": ("not", "a")}, None), (WHO, {"who": ("not",)}, None), (WHO, {}, None),
            (MIXED, {"who": ("in", "a", "b"), "day": (2, 4)}, 6), (MIXED, {"who": "a"}, None), (MIXED, {"day": 2}, None),
            (MIXED, {"who": ("in",)}, 0), (MIXED, {"day": (4, 2)}, 0), (MIXED, {"who": ("in",), "day": (1, None)}, 0),
            (MIXED, {"who": ("not", "a"), "day": (4, 2)}, 0), (THREE, {"a": ("in", "x", "y"), "b": (0, 4), "c": "z"}, 10),
        ]
        for columns, limits, number in cases:
            with self.subTest(limits=limits):
                self.assertEqual(Box(columns, limits).number(), number)
                self.assertIs(type(Box(columns, limits).number()), type(number))

    def test_truth_and_some_row_of_all_boxes(self):
        for box in all_boxes(MIXED):
            rows = rows_in(box)
            with self.subTest(limits=box.limits()):
                self.assertIs(bool(box), bool(rows))
                row = box.some_row()
                self.assertEqual(row is not None, bool(rows))
                self.assertTrue(row is None or row in box)

    def test_number_of_all_boxes(self):
        for box in all_boxes(MIXED):
            rows = rows_in(box)
            limits = box.limits()
            infinite = limits.get("who", ("not",))[0] == "not" or limits.get("day", (0, None))[1] is None
            with self.subTest(limits=limits):
                self.assertEqual(box.number(), None if rows and infinite else len(rows))

    def test_some_row_of_a_box_without_many_words(self):
        letters = "abcdefghijklmnopqrstuvwxyz"
        words = list(letters) + [one + other for one in letters for other in letters]
        for number in (1, 25, 26, 27, 51, 52, 701, 702):
            box = Box(WHO, {"who": ("not", *words[:number])})
            with self.subTest(number=number):
                row = box.some_row()
                self.assertIn(row, box)
                self.assertLessEqual(len(row[0]), 3)

    def test_some_row_is_a_tuple_of_the_kinds(self):
        row = Box(THREE, {"a": ("in", "not"), "b": (7, None), "c": ("not", "a")}).some_row()
        self.assertIs(type(row), tuple)
        self.assertEqual(row[:2], ("not", 7))
        self.assertEqual(Box(DAY, {}).some_row() in Box(DAY, {}), True)

    def test_the_world_has_a_row_of_each_kind(self):
        self.assertEqual(len(world(MIXED)), 15)
        self.assertTrue(all(row in Box(MIXED, {}) for row in world(MIXED)))


if __name__ == "__main__":
    unittest.main()
