"""What boxes are made of: the limits of one column, compared with sets of values."""

import unittest
from itertools import product

from surestreams.limits import allows, common, is_void, one_form, outside, size, some_value, united, word_at
from tests.worlds import NUMBER_LIMITS, WORD_LIMITS, values


def forms(kind):
    """Returns all limits of the small part of the world, in their one form."""
    return [one_form(kind, limit) for limit in (NUMBER_LIMITS if kind == "number" else WORD_LIMITS)]


def values_of(kind, limit):
    """Returns the values of the small part of the world that a limit allows."""
    return {value for value in values(kind) if allows(limit, value)}


def pairs():
    """Returns the triples of a kind and two limits of it."""
    return [
        (kind, one, other) for kind in ("number", "word") for one, other in product(forms(kind), forms(kind))
    ]


class LimitsTest(unittest.TestCase):
    def test_common(self):
        for kind, one, other in pairs():
            with self.subTest(one=one, other=other):
                found = common(one, other)
                self.assertEqual(values_of(kind, found), values_of(kind, one) & values_of(kind, other))
                self.assertEqual(one_form(kind, found), found)

    def test_outside(self):
        for kind, one, other in pairs():
            with self.subTest(one=one, other=other):
                parts = [values_of(kind, limit) for limit in outside(one, other)]
                rest = values_of(kind, one) - values_of(kind, other)
                self.assertTrue(all(parts))
                self.assertEqual(set().union(*parts), rest)
                self.assertEqual(sum(len(part) for part in parts), len(rest))

    def test_united(self):
        for kind, one, other in pairs():
            if is_void(one) or is_void(other):
                continue
            with self.subTest(one=one, other=other):
                both = values_of(kind, one) | values_of(kind, other)
                found = united(one, other)
                self.assertEqual(found is not None, both in [values_of(kind, limit) for limit in forms(kind)])
                self.assertTrue(found is None or values_of(kind, found) == both)

    def test_void_size_and_some_value(self):
        for kind in ("number", "word"):
            for limit in forms(kind):
                with self.subTest(limit=limit):
                    found = values_of(kind, limit)
                    self.assertIs(is_void(limit), not found)
                    self.assertIn(size(limit), (len(found), None))
                    self.assertTrue(is_void(limit) or allows(limit, some_value(limit)))

    def test_words_in_their_order(self):
        letters = "abcdefghijklmnopqrstuvwxyz"
        words = ["".join(word) for length in (1, 2, 3) for word in product(letters, repeat=length)]
        self.assertEqual([word_at(index) for index in range(len(words))], words)
        self.assertEqual(word_at(len(words)), "aaaa")


if __name__ == "__main__":
    unittest.main()
