"""Point 4, and surestreams/columns.py."""

import unittest

from surestreams.columns import is_columns, is_row, is_word
from surestreams.errors import InvalidColumns

WORDS = ["a", "z", "ann", "in", "not", "word", "number", "abcdefghijklmnopqrstuvwxyz", "x" * 40]
NO_WORDS = [
    "", "A", "Ann", "anN", "a b", " a", "a ", "a1", "1", "a_b", "_", "a-b", "a.", "a\n", "\n", "`", "{", "@", "[",
    "\u00e9", "stra\u00dfe", "\u03b1", "a\u0301", "\u0430", "\uff41", "\u212a", "\u00aa", "\u017f",
]
NO_STRINGS = [
    None, True, False, 0, 1, 1.5, b"a", b"", (), ("a",), [], ["a"], {}, {"a": 1}, {"a"}, frozenset("a"), object(), str,
]
COLUMNS = (("who", "word"), ("day", "number"))


def numbered(number):
    """Returns so many columns of words."""
    return tuple(("abcdefgh"[at], "word") for at in range(number))


class WordTest(unittest.TestCase):
    def test_words(self):
        for value in WORDS:
            with self.subTest(value):
                self.assertIs(is_word(value), True)

    def test_each_letter(self):
        for code in range(0x250):
            with self.subTest(code):
                self.assertIs(is_word(chr(code)), 97 <= code <= 122)
                self.assertIs(is_word("a" + chr(code) + "a"), 97 <= code <= 122)

    def test_other_values(self):
        for value in NO_WORDS + NO_STRINGS:
            with self.subTest(value):
                self.assertIs(is_word(value), False)

    def test_by_name(self):
        self.assertIs(is_word(value="ann"), True)


class ColumnsTest(unittest.TestCase):
    def test_columns(self):
        for value in [COLUMNS, (("word", "number"),), (("a", "word"), ("b", "word")), (("in", "word"), ("not", "number"))]:
            with self.subTest(value):
                self.assertIs(is_columns(value), True)

    def test_one_to_six(self):
        for number in range(9):
            with self.subTest(number):
                self.assertIs(is_columns(numbered(number)), 1 <= number <= 6)

    def test_names(self):
        for at in range(2):
            for name in WORDS + NO_WORDS + NO_STRINGS:
                value = list(COLUMNS)
                value[at] = (name, COLUMNS[at][1])
                with self.subTest(value=value):
                    self.assertIs(is_columns(tuple(value)), name in WORDS)

    def test_doubled_names(self):
        for other in ("word", "number"):
            self.assertIs(is_columns((("who", "word"), ("who", other))), False)
            self.assertIs(is_columns((("who", "word"), ("day", "word"), ("who", other))), False)
        self.assertIs(is_columns(numbered(5) + numbered(1)), False)

    def test_kinds(self):
        for kind in ["words", "Word", "", "int", "NUMBER", "number ", None, 0, True, ("word",), ["word"], {}, {"word"}, str]:
            with self.subTest(kind=kind):
                self.assertIs(is_columns((("who", kind),)), False)
                self.assertIs(is_columns(COLUMNS + (("x", kind),)), False)

    def test_lists_in_place_of_tuples(self):
        for value in [list(COLUMNS), [], (["who", "word"],), (("who", "word"), ["day", "number"]), ((["who"], "word"),)]:
            with self.subTest(value=value):
                self.assertIs(is_columns(value), False)

    def test_pairs_of_other_lengths(self):
        for pair in [(), ("who",), ("who", "word", "word"), "ab", "who", None, 3, {"who": "word"}]:
            with self.subTest(pair=pair):
                self.assertIs(is_columns((pair,)), False)
                self.assertIs(is_columns((("x", "word"), pair)), False)

    def test_one_column_without_its_tuple(self):
        self.assertIs(is_columns(("who", "word")), False)

    def test_other_values(self):
        endless = []
        endless.append(endless)
        for value in NO_STRINGS + WORDS + NO_WORDS + [dict(COLUMNS), set(COLUMNS), endless, (endless,), range(2)]:
            with self.subTest(type(value)):
                self.assertIs(is_columns(value), False)

    def test_by_name(self):
        self.assertIs(is_columns(value=COLUMNS), True)


class RowTest(unittest.TestCase):
    def test_rows(self):
        for row in [("ann", 0), ("in", 1), ("x" * 40, 10 ** 60 - 1)]:
            with self.subTest(row):
                self.assertIs(is_row(COLUMNS, row), True)
        self.assertIs(is_row(numbered(6), ("a",) * 6), True)
        self.assertIs(is_row((("day", "number"),), (7,)), True)

    def test_words_of_a_row(self):
        for word in WORDS + NO_WORDS + NO_STRINGS:
            with self.subTest(word=word):
                self.assertIs(is_row(COLUMNS, (word, 3)), word in WORDS)

    def test_numbers_of_a_row(self):
        for number in [-1, -(10 ** 20), True, False, None, "3", "ann", 3.0, 1.5, (3,), [3], {}, b"3", object(), int]:
            with self.subTest(number=number):
                self.assertIs(is_row(COLUMNS, ("ann", number)), False)

    def test_order_and_length(self):
        for row in [(3, "ann"), (), ("ann",), (3,), ("ann", 3, 3), ("ann", 3, "ann"), ("ann", "bob"), (3, 3)]:
            with self.subTest(row):
                self.assertIs(is_row(COLUMNS, row), False)

    def test_other_values(self):
        for row in NO_STRINGS + WORDS + NO_WORDS + [["ann", 3], {"ann": 3}, {"who": "ann", "day": 3}, (("ann", 3),), "an"]:
            with self.subTest(row=row):
                self.assertIs(is_row(COLUMNS, row), False)
        self.assertIs(is_row((("a", "word"), ("b", "word")), "an"), False)

    def test_invalid_columns(self):
        for columns in NO_STRINGS + [numbered(7), list(COLUMNS), (("who", "word"), ("who", "word")), ("who", "word")]:
            for row in [("ann", 3), ("ann",), None, ()]:
                with self.subTest(columns=columns, row=row):
                    with self.assertRaises(InvalidColumns) as caught:
                        is_row(columns, row)
                    self.assertIs(caught.exception.value, columns)

    def test_by_name(self):
        self.assertIs(is_row(value=("ann", 3), columns=COLUMNS), True)


if __name__ == "__main__":
    unittest.main()
