"""Whether many spans cover another one, compared with what is left when they are subtracted."""

import unittest
from itertools import product
from random import Random

from surestreams.boxes import Box, covers, uncovered
from surestreams.coverage import is_covered, middle_cut
from surestreams.limits import allows, meet
from surestreams.spans import gaps, point, shared, span_of, whole

WORDS = (("a", "word"), ("b", "word"))
MIXED = (("a", "word"), ("n", "number"), ("m", "number"))
NUMBERS = (("n", "number"), ("m", "number"))
LETTERS = "abcdefghij"


def drawn_limit(chance, kind):
    """Returns a limit that is drawn, mostly a narrow one."""
    if kind == "word":
        return (chance.choice(["in", "in", "in", "not"]), *chance.sample(LETTERS, chance.randrange(1, 4)))
    least = chance.randrange(12)
    return (least, chance.choice([None, least, least + 1, least + 3, least + 5]))


def drawn_span(chance, columns):
    """Returns a span that is drawn."""
    return span_of(columns, {name: drawn_limit(chance, kind) for name, kind in columns if chance.random() < 0.9})


class CoverageTest(unittest.TestCase):
    def test_drawn_spans(self):
        counted = {True: 0, False: 0}
        for seed in range(300):
            chance = Random(seed)
            columns = chance.choice([WORDS, MIXED, NUMBERS])
            spans = [drawn_span(chance, columns) for _ in range(chance.choice([1, 5, 20, 40, 60]))]
            for span in (whole(columns), drawn_span(chance, columns), shared(spans[0], drawn_span(chance, columns))):
                rest = gaps(spans, span)
                with self.subTest(seed=seed):
                    self.assertIs(is_covered(spans, span), not rest)
                    self.assertIs(is_covered(spans + rest, span), True)
                    for at in range(min(len(rest), 3)):
                        self.assertIs(is_covered(spans + rest[:at] + rest[at + 1:], span), False)
                    counted[not rest] += 1
        self.assertGreater(min(counted.values()), 50)

    def test_all_points_but_one(self):
        rows = list(product(LETTERS, range(12)))
        spans = [point(row) for row in rows]
        columns = (("a", "word"), ("n", "number"))
        span = span_of(columns, {"a": ("in", *LETTERS), "n": (None, 11)})
        self.assertIs(is_covered(spans, span), True)
        for at in range(0, len(spans), 7):
            self.assertIs(is_covered(spans[:at] + spans[at + 1:], span), False)

    def test_all_pairs_of_numbers_but_one(self):
        for start in (0, 5):
            rows = list(product(range(start, start + 8), range(start, start + 8)))
            span = span_of(NUMBERS, {"n": (start, start + 7), "m": (start, start + 7)})
            for at in range(len(rows)):
                spans = [point(row) for row in rows[:at] + rows[at + 1:]]
                self.assertIs(is_covered(spans, span), False)
                self.assertIs(is_covered(spans + [point(rows[at])], span), True)

    def test_each_value_is_in_one_half(self):
        chance = Random(7)
        for _ in range(200):
            kind = chance.choice(["word", "number"])
            one, other = middle_cut([drawn_limit(chance, kind) for _ in range(chance.randrange(1, 20))])
            for value in list(LETTERS) + ["other"] if kind == "word" else range(20):
                self.assertNotEqual(allows(one, value), allows(other, value))
        self.assertEqual(middle_cut([(0, 3), (0, None)]), [(0, 0), (1, None)])

    def test_many_boxes(self):
        chance = Random(5)
        words = [first + second for first in LETTERS for second in LETTERS]
        boxes = [Box(WORDS, {"a": chance.choice(words), "b": chance.choice(words)}) for _ in range(120)]
        rest = uncovered(boxes, Box(WORDS, {}))
        self.assertIs(covers(boxes + rest, Box(WORDS, {})), True)
        self.assertIs(covers(boxes[1:] + rest, Box(WORDS, {})), boxes[0] in boxes[1:])
        self.assertIs(covers(boxes + rest[1:], Box(WORDS, {})), False)

    def test_limits_that_meet(self):
        limits = [(mark, *LETTERS[first:last]) for mark in ("in", "not") for first in range(3) for last in (3, 5, 10)] + [("not",), ("in", "z"), ("not", "z")]
        limits.append(("in", *[letter * 2 for letter in LETTERS]))
        words = list(LETTERS) + [letter * 2 for letter in LETTERS] + ["z", "other"]
        for one, other in product(limits, limits):
            common = [word for word in words if (word in one[1:]) == (one[0] == "in") and (word in other[1:]) == (other[0] == "in")]
            self.assertIs(meet(one, other), bool(common))


if __name__ == "__main__":
    unittest.main()
