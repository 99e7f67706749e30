"""Points 2, 3 (j), 4, 5 and 13: texts of rows and limits, and back."""

import unittest
from copy import deepcopy
from itertools import product
from random import Random

from surestreams.boxes import Box
from surestreams.errors import InvalidBox, InvalidColumns, InvalidRow, InvalidText
from surestreams.formats import format_limits, format_row, parse_limits, parse_row
from tests.worlds import NUMBER_LIMITS, WORD_LIMITS

WHO, DAY = ("who", "word"), ("day", "number")
ONE, NUMBER, BOTH, TURNED = (WHO,), (DAY,), (WHO, DAY), (DAY, WHO)
SIX = (WHO, DAY, ("in", "word"), ("not", "number"), ("x", "word"), ("row", "number"))
NO_TEXTS = [None, True, 3, 0, b"ann", (), ("ann",), ["ann", "3"], {}, {"who": "ann"}, object(), Box, ("ann", 3)]
NO_COLUMNS = [None, 3, "who", (), [], (WHO, WHO), [WHO], (("who", "text"),), (("Who", "word"),), (("who",),), SIX + (("y", "word"),)]
NO_ROWS = [None, "ann 3", ("ann",), ("ann", 3, 4), ["ann", 3], (3, "ann"), ("ann", True), ("ann", "3"), ("Ann", 3), ("ann", -1), ("", 3)]
NO_LIMITS = [
    None, "*", 3, (), [], {"a": "x"}, {"who": 3}, {"day": "ann"}, {"day": True}, {"day": (1, True)}, {"day": [1, 2]}, {"day": (1,)},
    {"who": ("ann",)}, {"who": ["in", "ann"]}, {"who": "Ann"}, {"day": -1}, {3: "ann"}, {"who": ("in", 3)}, {"who": "ann", "x": 3},
]
BAD_ROWS = [
    "", " ", "ann", "3", "ann 3 4", "ann bob 3", "ann  3", " ann 3", "ann 3 ", "ann 3\n", "\nann 3", "ann\n3", "ann 03", "ann 00", "ann +3",
    "ann -3", "ann -0", "Ann 3", "aNn 3", "ann three", "3 ann", "3 3", "ann ann", "ann 3.0", "ann 3_0", "ann 0x3", "ann\t3", "ann, 3",
    "'ann' 3", "(ann 3)", "ann3", "ann_b 3", "a1 3", "-", "*", "ann 1e3", "ann None", "who=ann day=3..3",
]
BAD_LIMITS = [
    "", " ", "**", "* ", " *", "* *", "*\n", "who=ann *", "* who=ann", "who", "=", "!", "who =ann", "who= ann", "who==ann", "who!=ann", "who=!ann",
    "who=ann who=ann", "who=ann who!bob", "day=1..2 day=1..2", "day=1..2 who=ann", "x=ann", "who=ann x=3..4", "Who=ann",
    "who=Ann", "who=ann,ann", "who=bob,ann", "who!ann,ann", "who!bob,ann", "who!", "who=ann,", "who=,ann", "who=ann,,bob", "who=ann, bob",
    "who=ann;bob", "who=3", "who=3..4", "who!3..4", "who=..", "day=ann", "day!ann", "day!3..4", "day=3", "day=..", "day=..3", "day=3.4", "day=3...4",
    "day=3..4..5", "day=03..4", "day=3..04", "day=00..4", "day=+3..4", "day=-3..4", "day=3..-4", "day=3.. 4", "day=3 ..4", "day=0..", "who=ann day=0..",
    "who! day=1..2", "who=ann  day=1..2", " who=ann", "who=ann ", "who=ann\n", "who=ann\nday=1..2", "who=ann,day=1..2", "day=a..b", "day=", "who~ann",
    "ann 3", "who=ann day", "day=1..2,3..4", "who=*", "day=*",
]
FORMS = [
    ({}, "*"), ({"who": "ann"}, "who=ann"), ({"who": ("in", "ann")}, "who=ann"), ({"who": ("in", "bob", "ann", "bob")}, "who=ann,bob"),
    ({"who": ("in",)}, "who="), ({"who": ("not",)}, "*"), ({"who": ("not", "ann")}, "who!ann"), ({"who": ("not", "cid", "ann", "cid")}, "who!ann,cid"),
    ({"who": "in"}, "who=in"), ({"who": ("in", "in", "not")}, "who=in,not"), ({"who": ("not", "not", "in")}, "who!in,not"),
    ({"day": 3}, "day=3..3"), ({"day": 0}, "day=0..0"), ({"day": (None, None)}, "*"), ({"day": (0, None)}, "*"), ({"day": (1, None)}, "day=1.."),
    ({"day": (None, 4)}, "day=0..4"), ({"day": (2, 4)}, "day=2..4"), ({"day": (5, 3)}, "day=5..3"), ({"day": (10 ** 59, 10 ** 60 - 1)}, f"day=1{'0' * 59}..{'9' * 60}"),
    ({"day": (3, None), "who": "ann"}, "who=ann day=3.."), ({"who": ("in",), "day": (5, 3)}, "who= day=5..3"), ({"who": ("not",), "day": 7}, "day=7..7"),
    ({"day": (0, None), "who": ("not", "a", "aa")}, "who!a,aa"),
]


class FormatsCase(unittest.TestCase):
    def refused(self, error, value, call, *arguments):
        with self.assertRaises(error) as caught:
            call(*arguments)
        self.assertIs(type(caught.exception), error)
        self.assertIs(caught.exception.value, value)


class RowsTest(FormatsCase):
    def test_rows(self):
        for columns, row, text in (
            (ONE, ("a",), "a"), (ONE, ("annabel",), "annabel"), (NUMBER, (0,), "0"), (NUMBER, (10,), "10"), (BOTH, ("ann", 3), "ann 3"),
            (TURNED, (3, "ann"), "3 ann"), (NUMBER, (10 ** 60 - 1,), "9" * 60), (SIX, ("a", 0, "in", 1, "not", 20), "a 0 in 1 not 20"),
            (ONE, ("row",), "row"), (BOTH, ("x" * 40, 100), "x" * 40 + " 100"),
        ):
            with self.subTest(text=text):
                self.assertEqual(format_row(columns, row), text)
                found = parse_row(columns, text)
                self.assertEqual(found, row)
                self.assertEqual([type(value) for value in found], [type(value) for value in row])
                self.assertIs(type(found), tuple)

    def test_drawn_rows(self):
        chance = Random(13)
        for _ in range(500):
            columns = tuple((name, chance.choice(["word", "number"])) for name in "abcdef"[:chance.randrange(1, 7)])
            row = tuple(
                "".join(chance.choice("abyz") for _ in range(chance.randrange(1, 5))) if kind == "word" else chance.choice([0, 1, 10, 10 ** chance.randrange(59)])
                for _, kind in columns
            )
            text = format_row(columns, row)
            self.assertEqual(text.split(" "), [str(value) for value in row])
            self.assertEqual(parse_row(columns, text), row)

    def test_texts_that_are_no_rows(self):
        for text in BAD_ROWS + NO_TEXTS:
            with self.subTest(text=text):
                self.refused(InvalidText, text, parse_row, BOTH, text)
        for columns, text in ((ONE, "3"), (ONE, "a b"), (NUMBER, "a"), (NUMBER, "01"), (NUMBER, ""), (ONE, ""), (TURNED, "ann 3"), (SIX, "a 0 in 1 not")):
            with self.subTest(text=text):
                self.refused(InvalidText, text, parse_row, columns, text)

    def test_errors_of_format_row(self):
        for columns in NO_COLUMNS:
            self.refused(InvalidColumns, columns, format_row, columns, ("ann", 3))
            self.refused(InvalidColumns, columns, format_row, columns, None)
            self.refused(InvalidColumns, columns, parse_row, columns, "ann 3")
            self.refused(InvalidColumns, columns, parse_row, columns, None)
        for row in NO_ROWS:
            with self.subTest(row=row):
                self.refused(InvalidRow, row, format_row, BOTH, row)

    def test_by_name(self):
        self.assertEqual(format_row(row=("ann", 3), columns=BOTH), "ann 3")
        self.assertEqual(parse_row(text="ann 3", columns=BOTH), ("ann", 3))
        self.assertEqual(format_limits(limits={"day": 3}, columns=BOTH), "day=3..3")
        self.assertEqual(parse_limits(text="day=3..3", columns=BOTH), {"day": (3, 3)})


class LimitsTest(FormatsCase):
    def test_all_forms(self):
        for limits, text in FORMS:
            with self.subTest(text=text, limits=limits):
                before = deepcopy(limits)
                self.assertEqual(format_limits(BOTH, limits), text)
                self.assertEqual(limits, before)
                found = parse_limits(BOTH, text)
                self.assertEqual(found, Box(BOTH, limits).limits())
                self.assertEqual(Box(BOTH, found), Box(BOTH, limits))
                self.assertIs(type(found), dict)

    def test_all_pairs_of_limits(self):
        for who, day in product(WORD_LIMITS, NUMBER_LIMITS):
            limits = {"who": who, "day": day}
            text = format_limits(BOTH, limits)
            self.assertEqual(text, format_limits(BOTH, {"day": day, "who": who}))
            found = parse_limits(BOTH, text)
            self.assertEqual(found, Box(BOTH, limits).limits())
            self.assertEqual(format_limits(BOTH, found), text)
            self.assertEqual(format_limits(TURNED, limits).split(" "), text.split(" ")[::-1])

    def test_limits_of_many_columns(self):
        limits = {"row": (4, None), "in": ("not", "in"), "who": ("in",), "not": 3}
        text = "who= in!in not=3..3 row=4.."
        self.assertEqual(format_limits(SIX, limits), text)
        self.assertEqual(parse_limits(SIX, text), {"who": ("in",), "in": ("not", "in"), "not": (3, 3), "row": (4, None)})

    def test_texts_that_are_no_limits(self):
        for text in BAD_LIMITS + NO_TEXTS:
            with self.subTest(text=text):
                self.refused(InvalidText, text, parse_limits, BOTH, text)
        self.refused(InvalidText, "day=1..2", parse_limits, ONE, "day=1..2")
        self.refused(InvalidText, "who=ann day=1..2", parse_limits, TURNED, "who=ann day=1..2")

    def test_each_text_near_a_good_one(self):
        # Whatever is read back is written in the same way, so each text of limits is the only one.
        for text in ("who=ann,bob day=1..20", "who!a day=3..", "*", "who= day=0..5"):
            for at, sign in product(range(len(text) + 1), " ,.=!ab012*\n"):
                for other in (text[:at] + sign + text[at:], text[:at] + text[at + 1:], text[:at] + sign + text[at + 1:]):
                    try:
                        found = parse_limits(BOTH, other)
                    except InvalidText:
                        continue
                    self.assertEqual(format_limits(BOTH, found), other)

    def test_errors_of_format_limits(self):
        for columns in NO_COLUMNS:
            self.refused(InvalidColumns, columns, format_limits, columns, {})
            self.refused(InvalidColumns, columns, format_limits, columns, None)
            self.refused(InvalidColumns, columns, parse_limits, columns, "*")
            self.refused(InvalidColumns, columns, parse_limits, columns, None)
        for limits in NO_LIMITS:
            with self.subTest(limits=limits):
                self.refused(InvalidBox, limits, format_limits, BOTH, limits)

    def test_returned_limits_are_new(self):
        found = parse_limits(BOTH, "who=ann")
        found["day"] = 3
        found.pop("who")
        self.assertEqual(parse_limits(BOTH, "who=ann"), {"who": ("in", "ann")})


if __name__ == "__main__":
    unittest.main()
