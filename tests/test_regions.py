"""What possible rows are made of: lists of spans, compared with sets of rows."""

import unittest
from itertools import product
from random import Random

from surestreams.limits import allows
from surestreams.regions import chained, joined, tidy, without_rows
from surestreams.spans import has, is_empty, is_part, point, span_of, touch, whole
from tests.worlds import MIXED, all_boxes, random_box, rows_in, world

PAIR = (("from", "number"), ("to", "number"))
WORDS = (("from", "word"), ("to", "word"))
NAMED = (("who", "word"), ("name", "word"))


def spans_of(columns, number, seed):
    """Returns spans, none of them empty, that are drawn."""
    chance = Random(seed)
    spans = [span_of(columns, random_box(columns, chance).limits()) for _ in range(number)]
    return [span for span in spans if not is_empty(span)]


def rows_of(columns, spans):
    """Returns the rows of the small part of the world that are in one of the spans."""
    return {row for row in world(columns) if any(has(span, row) for span in spans)}


class RegionsTest(unittest.TestCase):
    def test_points_and_wholes(self):
        for row in world(MIXED):
            self.assertEqual(rows_of(MIXED, [point(row)]), {row})
        self.assertEqual(rows_of(MIXED, [whole(MIXED)]), set(world(MIXED)))

    def test_touch_and_is_part(self):
        spans = [span_of(MIXED, box.limits()) for box in all_boxes(MIXED) if box][::7]
        found = {span: rows_of(MIXED, [span]) for span in spans}
        for one, other in product(spans, spans):
            self.assertIs(touch(one, other), bool(found[one] & found[other]))
            self.assertIs(is_part(one, other), found[one] <= found[other])

    def test_tidy(self):
        for seed in range(150):
            spans = spans_of(MIXED, seed % 9, seed)
            before = list(spans)
            found = tidy(spans)
            with self.subTest(seed=seed):
                self.assertEqual(spans, before)
                self.assertFalse(any(is_empty(span) for span in found))
                self.assertEqual(rows_of(MIXED, found), rows_of(MIXED, spans))
                self.assertLessEqual(len(found), max(1, 2 * len(spans)))

    def test_tidy_puts_spans_together(self):
        self.assertEqual(tidy([point(row) for row in product(("in", "not"), range(4))]), [(("in", "in", "not"), (0, 3))])
        self.assertEqual(tidy([whole(MIXED), point(("in", 3))]), [whole(MIXED)])
        self.assertEqual(tidy([point(("in", 3))] * 3), [point(("in", 3))])
        self.assertEqual(tidy([]), [])

    def test_many_spans(self):
        spans = [point((f"{one}{other}", number)) for one in "abcde" for other in "vwxyz" for number in range(0, 40, 2)]
        found = tidy(spans)
        self.assertEqual(len(found), 20)
        self.assertTrue(all(any(is_part(span, other) for other in found) for span in spans))

    def test_without_rows(self):
        for seed in range(200):
            chance = Random(seed)
            for span in spans_of(MIXED, 3, seed):
                rows = [row for row in world(MIXED) if has(span, row)]
                rows = chance.sample(rows, chance.randrange(len(rows) + 1))
                pieces = without_rows(span, rows)
                found = [rows_of(MIXED, [piece]) for piece in pieces]
                with self.subTest(seed=seed):
                    self.assertFalse(any(is_empty(piece) for piece in pieces))
                    self.assertEqual(set().union(*found), rows_of(MIXED, [span]) - set(rows))
                    self.assertEqual(sum(len(part) for part in found), len(set().union(*found)))

    def test_without_many_rows(self):
        rows = [(word, number) for word in ("ab", "ba") for number in range(0, 200, 2)]
        pieces = without_rows(whole(MIXED), rows)
        self.assertEqual(len(pieces), 1 + 2 * 100)
        for row in rows:
            self.assertFalse(any(has(piece, row) for piece in pieces))
            self.assertEqual(sum(has(piece, (row[0], row[1] + 1)) for piece in pieces), 1)
        self.assertEqual(without_rows(point(("a", 3)), [("a", 3)]), [])

    def test_joined_by_a_column(self):
        for seed in range(100):
            lefts, rights = spans_of(MIXED, 4, seed), spans_of(NAMED, 4, seed + 1000)
            found = joined(lefts, rights, [(0, 0)], [1])
            expected = {
                left + right[1:] for left in rows_of(MIXED, lefts) for right in rows_of(NAMED, rights) if left[0] == right[0]
            }
            with self.subTest(seed=seed):
                self.assertFalse(any(is_empty(span) for span in found))
                self.assertEqual(rows_of(MIXED + (("name", "word"),), found), expected)

    def test_joined_by_all_columns_and_by_none(self):
        for seed in range(60):
            lefts, rights = spans_of(MIXED, 4, seed), spans_of(MIXED, 4, seed + 1000)
            both = joined(lefts, rights, [(0, 0), (1, 1)], [])
            self.assertEqual(rows_of(MIXED, both), rows_of(MIXED, lefts) & rows_of(MIXED, rights))
            pairs = joined(lefts, rights, [], [0, 1])
            self.assertEqual(len(pairs), len(lefts) * len(rights))
            self.assertEqual(pairs, [left + right for left in lefts for right in rights])

    def test_chained(self):
        for columns in (PAIR, WORDS):
            for seed in range(150):
                spans = spans_of(columns, seed % 6, seed)
                found = chained(spans)
                with self.subTest(seed=seed):
                    self.assertFalse(any(is_empty(span) for span in found))
                    self.assertEqual(rows_of(columns, found), self.closed(columns, spans))

    def closed(self, columns, spans):
        """Returns the closure of the rows of spans, where one value stands for all that no limit names."""
        rows = rows_of(columns, spans)
        firsts = sorted({row[0] for row in world(columns)})
        reached = {first: {row[1] for row in rows if row[0] == first} for first in firsts}
        for _ in firsts:
            for first in firsts:
                reached[first] = reached[first].union(*[reached[middle] for middle in reached[first]])
        return {(first, last) for first in firsts for last in reached[first]}

    def test_boxes_and_spans_agree(self):
        for box in all_boxes(MIXED)[::11]:
            self.assertEqual(rows_in(box), rows_of(MIXED, [span_of(MIXED, box.limits())]))
            self.assertTrue(all(allows(limit, value) for row in rows_in(box) for limit, value in zip(span_of(MIXED, box.limits()), row)))


if __name__ == "__main__":
    unittest.main()
