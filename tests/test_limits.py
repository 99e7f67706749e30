"""What boxes are made of: the limits of one column, compared with sets of values."""

import unittest
from itertools import product

from surestreams.limits import all_united, allows, common, is_void, is_within, left_over, meet, one_form, only, outside
from surestreams.limits import size, some_value, united, word_at
from tests.worlds import NUMBER_LIMITS, WORD_LIMITS, values


def forms(kind):
    """Returns all limits of the small part of the world, in their one form."""
    return [one_form(kind, limit) for limit in (NUMBER_LIMITS if kind == "number" else WORD_LIMITS)]


def values_of(kind, limit):
    """Returns the values of the small part of the world that a limit allows."""
    return {value for value in values(kind) if allows(limit, value)}


def pairs():
    """Returns the triples of a kind and two limits of it."""
    return [
        (kind, one, other) for kind in ("number", "word") for one, other in product(forms(kind), forms(kind))
    ]


class LimitsTest(unittest.TestCase):
    def test_common(self):
        for kind, one, other in pairs():
            with self.subTest(one=one, other=other):
                found = common(one, other)
                self.assertEqual(values_of(kind, found), values_of(kind, one) & values_of(kind, other))
                self.assertEqual(one_form(kind, found), found)

    def test_outside(self):
        for kind, one, other in pairs():
            with self.subTest(one=one, other=other):
                parts = [values_of(kind, limit) for limit in outside(one, other)]
                rest = values_of(kind, one) - values_of(kind, other)
                self.assertTrue(all(parts))
                self.assertEqual(set().union(*parts), rest)
                self.assertEqual(sum(len(part) for part in parts), len(rest))

    def test_united(self):
        for kind, one, other in pairs():
            if is_void(one) or is_void(other):
                continue
            with self.subTest(one=one, other=other):
                both = values_of(kind, one) | values_of(kind, other)
                found = united(one, other)
                self.assertEqual(found is not None, both in [values_of(kind, limit) for limit in forms(kind)])
                self.assertTrue(found is None or values_of(kind, found) == both)

    def test_is_within_and_meet(self):
        for kind, one, other in pairs():
            if is_void(one):
                continue
            with self.subTest(one=one, other=other):
                found = values_of(kind, one)
                self.assertIs(is_within(one, other), found <= values_of(kind, other))
                if not is_void(other):
                    self.assertIs(meet(one, other), bool(found & values_of(kind, other)))

    def test_all_united(self):
        for kind in ("number", "word"):
            limits = [limit for limit in forms(kind) if not is_void(limit)]
            for chosen in product(limits, repeat=3 if kind == "word" else 2):
                found = [values_of(kind, limit) for limit in all_united(list(chosen))]
                with self.subTest(chosen=chosen):
                    self.assertEqual(set().union(*found), set().union(*[values_of(kind, limit) for limit in chosen]))
                    self.assertEqual(sum(len(part) for part in found), len(set().union(*found)))
        self.assertEqual(all_united([(7, None), (0, 2), (3, 3), (5, 5), (1, 1)]), [(0, 3), (5, 5), (7, None)])
        self.assertEqual(all_united([(4, 9), (2, 7), (0, None)]), [(0, None)])
        self.assertEqual(all_united([("in", "b"), ("not", "a", "b"), ("in", "c")]), [("not", "a")])

    def test_left_over(self):
        for kind in ("number", "word"):
            for limit in forms(kind):
                inside = sorted(values_of(kind, limit))
                for some in (inside, inside[:1], inside[1:], inside[::2], []):
                    parts = [values_of(kind, part) for part in left_over(limit, some[::-1])]
                    with self.subTest(limit=limit, some=some):
                        self.assertEqual(set().union(*parts), set(inside) - set(some))
                        self.assertEqual(sum(len(part) for part in parts), len(inside) - len(some))
        self.assertEqual(left_over((0, None), [5, 3, 4]), [(0, 2), (6, None)])

    def test_only(self):
        for limit, value in (
            ((3, 3), 3), ((0, 0), 0), ((0, None), None), ((3, 4), None), (("in", "a"), "a"), (("in",), None), (("not",), None),
            (("in", "a", "b"), None), (("not", "a"), None), (("in", "in"), "in"),
        ):
            self.assertEqual(only(limit), value)

    def test_void_size_and_some_value(self):
        for kind in ("number", "word"):
            for limit in forms(kind):
                with self.subTest(limit=limit):
                    found = values_of(kind, limit)
                    self.assertIs(is_void(limit), not found)
                    self.assertIn(size(limit), (len(found), None))
                    self.assertTrue(is_void(limit) or allows(limit, some_value(limit)))

    def test_words_in_their_order(self):
        letters = "abcdefghijklmnopqrstuvwxyz"
        words = ["".join(word) for length in (1, 2, 3) for word in product(letters, repeat=length)]
        self.assertEqual([word_at(index) for index in range(len(words))], words)
        self.assertEqual(word_at(len(words)), "aaaa")


if __name__ == "__main__":
    unittest.main()
