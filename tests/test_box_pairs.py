"""Point 5: what is said of two boxes, and covers and uncovered."""

import unittest
from itertools import product
from random import Random

from surestreams.boxes import Box, covers, merged, uncovered
from surestreams.errors import InvalidBox
from tests.worlds import MIXED, NUMBER_LIMITS, WORD_LIMITS, all_boxes, random_box, rows_in, rows_of, world

WHO = (("who", "word"),)
DAY = (("day", "number"),)
SIX = tuple((name, "word" if name in "ace" else "number") for name in "abcdef")
FOUR = SIX[:4]
TURNED = MIXED[::-1]
OTHER_NAME = (("whom", "word"), ("day", "number"))
OTHER_KIND = (("who", "number"), ("day", "number"))
NO_BOXES = [None, True, 0, "box", (), [], {}, {"who": "ann"}, MIXED, object(), Box, ("ann", 3), {1}, 1.5]
NO_LIKE_BOXES = NO_BOXES + [Box(columns, {}) for columns in (WHO, DAY, TURNED, OTHER_NAME, OTHER_KIND, SIX)]


def some_pairs(columns, number, seed):
    """Returns pairs of boxes of limits that are chosen at random, but each time the same."""
    chance = Random(seed)
    return [(random_box(columns, chance), random_box(columns, chance)) for _ in range(number)]


class PairsCase(unittest.TestCase):
    def refused(self, value, call, *arguments):
        with self.assertRaises(InvalidBox) as caught:
            call(*arguments)
        self.assertIs(caught.exception.value, value)

    def sound(self, box, columns):
        """A box that was returned is the same as one that is made from its columns and limits."""
        self.assertIsInstance(box, Box)
        self.assertEqual(box.columns, columns)
        again = Box(columns, box.limits())
        self.assertEqual(again, box)
        self.assertEqual(again.limits(), box.limits())
        self.assertEqual(again.number(), box.number())
        self.assertEqual(again.some_row() is None, box.some_row() is None)

    def parted(self, pieces, rows, columns):
        """The pieces are boxes that are not empty and have no common rows, and together the rows."""
        self.assertIs(type(pieces), list)
        for piece in pieces:
            self.sound(piece, columns)
        found = [rows_in(piece) for piece in pieces]
        self.assertTrue(all(found))
        self.assertTrue(all(pieces))
        self.assertEqual(sum(len(part) for part in found), len(rows))
        self.assertEqual(set().union(*found), rows)


class TwoBoxesTest(PairsCase):
    def agrees(self, one, other, rows, others):
        """All operators agree with the sets of the rows of both boxes."""
        self.assertEqual(one.is_inside(other), rows <= others)
        self.assertEqual(one == other, rows == others)
        self.assertEqual(one != other, rows != others)
        both = one & other
        self.assertEqual(rows_in(both), rows & others)
        self.sound(both, one.columns)
        self.parted(one - other, rows - others, one.columns)

    def test_all_pairs_of_one_column(self):
        for columns in (WHO, DAY):
            boxes = [(box, rows_in(box)) for box in all_boxes(columns)]
            for (one, rows), (other, others) in product(boxes, boxes):
                with self.subTest(one=one.limits(), other=other.limits()):
                    self.agrees(one, other, rows, others)

    def test_many_pairs_of_more_columns(self):
        for columns, number in ((MIXED, 2500), (TURNED, 500), (FOUR, 150)):
            for one, other in some_pairs(columns, number, 7):
                with self.subTest(one=one.limits(), other=other.limits()):
                    self.agrees(one, other, rows_in(one), rows_in(other))

    def test_equal_boxes_of_different_limits(self):
        self.assertEqual(Box(WHO, {"who": "ann"}), Box(WHO, {"who": ("in", "ann", "ann")}))
        self.assertEqual(Box(WHO, {"who": ("not",)}), Box(WHO, {}))
        self.assertEqual(Box(DAY, {"day": (None, None)}), Box(DAY, {}))
        self.assertEqual(Box(MIXED, {"day": (5, 3)}), Box(MIXED, {"who": ("in",)}))
        self.assertEqual(Box(DAY, {"day": (5, 3)}), Box(DAY, {"day": (9, 1)}))

    def test_boxes_of_other_columns_and_other_values_are_unequal(self):
        for limits in ({}, {"day": (5, 3)}):
            box = Box(MIXED, limits)
            for value in NO_LIKE_BOXES + [Box(TURNED, limits), Box(OTHER_NAME, limits)]:
                with self.subTest(value=value):
                    self.assertIs(box == value, False)
                    self.assertIs(value == box, False)
                    self.assertIs(box != value, True)

    def test_empty_boxes_of_other_columns_are_unequal(self):
        self.assertNotEqual(Box(DAY, {"day": (2, 1)}), Box(WHO, {"who": ("in",)}))
        self.assertNotEqual(Box(MIXED, {"day": (2, 1)}), Box(TURNED, {"day": (2, 1)}))

    def test_invalid_operands(self):
        box = Box(MIXED, {"who": "ann"})
        for value in NO_LIKE_BOXES:
            with self.subTest(value=value):
                self.refused(value, box.is_inside, value)
                self.refused(value, lambda: box & value)
                self.refused(value, lambda: box - value)

    def test_invalid_operands_of_empty_boxes(self):
        box = Box(MIXED, {"day": (3, 2)})
        for value in NO_LIKE_BOXES:
            with self.subTest(value=value):
                self.refused(value, box.is_inside, value)
                self.refused(value, lambda: box & value)
                self.refused(value, lambda: box - value)

    def test_operands_do_not_change(self):
        for one, other in some_pairs(MIXED, 200, 3):
            before = (one.limits(), other.limits())
            results = [one & other, one - other, one == other, one.is_inside(other=other), merged(one, other)]
            self.assertEqual(len(results), 5)
            self.assertEqual((one.limits(), other.limits()), before)

    def test_returned_lists_are_new(self):
        one, other = Box(DAY, {}), Box(DAY, {"day": 5})
        (one - other).clear()
        self.assertEqual(len(one - other), 2)
        boxes = [other]
        uncovered(boxes, one).clear()
        self.assertEqual(boxes, [other])
        self.assertEqual(len(uncovered(boxes, one)), 2)

    def test_kinds_of_results(self):
        one, other = Box(DAY, {"day": (1, 5)}), Box(DAY, {"day": (4, 8)})
        for value in (one.is_inside(other), one == other, bool(one), (3,) in one, covers([other], one)):
            self.assertIs(type(value), bool)
        self.assertTrue(all(isinstance(box, Box) for box in [one & other, merged(one, other)] + (one - other)))


class MergedTest(PairsCase):
    def merges(self, pairs, boxes):
        """merged returns a box of the rows of both, or None if all boxes have other rows."""
        known = {frozenset(rows_in(box)) for box in boxes}
        for one, other in pairs:
            rows = rows_in(one) | rows_in(other)
            with self.subTest(one=one.limits(), other=other.limits()):
                box = merged(one, other)
                self.assertEqual(box is not None, rows in known)
                if box is not None:
                    self.assertEqual(rows_in(box), rows)
                    self.sound(box, one.columns)

    def test_all_pairs_of_one_column(self):
        for columns in (WHO, DAY):
            boxes = all_boxes(columns)
            self.merges(product(boxes, boxes), boxes)

    def test_many_pairs_of_two_columns(self):
        for columns in (MIXED, TURNED):
            self.merges(some_pairs(columns, 2000, 5), all_boxes(columns))

    def test_pairs_of_three_columns_that_differ_in_one(self):
        chance = Random(4)
        known = {}
        for column in all_boxes(WHO) + all_boxes(DAY):
            known.setdefault(column.columns, set()).add(frozenset(rows_in(column)))
        for _ in range(600):
            box = random_box(FOUR[:3], chance)
            name, kind = chance.choice(FOUR[:3])
            limits = chance.sample(NUMBER_LIMITS if kind == "number" else WORD_LIMITS, 2)
            one, other = [Box(FOUR[:3], {**box.limits(), name: limit}) for limit in limits]
            columns = DAY if kind == "number" else WHO
            rows = frozenset().union(*[rows_of(columns, {columns[0][0]: limit}) for limit in limits])
            with self.subTest(one=one.limits(), other=other.limits()):
                found = merged(one, other)
                self.assertEqual(found is None, bool(one) and bool(other) and rows not in known[columns])
                if found is not None:
                    self.assertEqual(rows_in(found), rows_in(one) | rows_in(other))
                    self.sound(found, FOUR[:3])

    def test_examples(self):
        cases = [
            (DAY, {"day": (1, 3)}, {"day": (4, 6)}, {"day": (1, 6)}), (DAY, {"day": (1, 3)}, {"day": (5, 6)}, None),
            (DAY, {"day": (4, 6)}, {"day": (1, 3)}, {"day": (1, 6)}), (DAY, {"day": (4, None)}, {"day": (1, 3)}, {"day": (1, None)}),
            (DAY, {"day": (5, 1)}, {"day": (5, 6)}, {"day": (5, 6)}), (DAY, {"day": 5}, {"day": (4, 2)}, {"day": 5}),
            (WHO, {"who": "a"}, {"who": "b"}, {"who": ("in", "a", "b")}), (WHO, {"who": ("not", "a")}, {"who": "a"}, {}),
            (WHO, {"who": ("not", "a", "b")}, {"who": ("not", "b", "c")}, {"who": ("not", "b")}),
            (MIXED, {"who": "a", "day": 1}, {"who": "b", "day": 2}, None), (MIXED, {"who": "a"}, {"day": 2}, None),
            (MIXED, {"who": "a", "day": 1}, {"who": "b", "day": 1}, {"who": ("in", "a", "b"), "day": 1}),
            (MIXED, {"who": "a", "day": (1, 4)}, {"who": ("in", "a", "b"), "day": (2, 3)}, None),
            (MIXED, {"who": ("in",)}, {"day": (2, 1)}, {"day": (2, 1)}),
        ]
        for columns, one, other, limits in cases:
            with self.subTest(one=one, other=other):
                box = merged(Box(columns, one), Box(columns, other))
                self.assertEqual(box, None if limits is None else Box(columns, limits))

    def test_errors_in_their_order(self):
        box = Box(MIXED, {})
        for value in NO_BOXES:
            with self.subTest(value=value):
                self.refused(value, merged, value, box)
                self.refused(value, merged, value, None)
        for value in NO_LIKE_BOXES:
            with self.subTest(value=value):
                self.refused(value, merged, box, value)

    def test_by_name(self):
        self.assertEqual(merged(other=Box(DAY, {"day": 1}), one=Box(DAY, {"day": 2})), Box(DAY, {"day": (1, 2)}))


class CoversTest(PairsCase):
    def test_against_sets_of_rows(self):
        chance = Random(11)
        for columns, number in ((WHO, 200), (DAY, 300), (MIXED, 600), (FOUR, 40)):
            for turn in range(number):
                boxes = [random_box(columns, chance) for _ in range(chance.randrange(6))]
                box = random_box(columns, chance)
                rest = rows_in(box).difference(*[rows_in(each) for each in boxes])
                with self.subTest(columns=columns, turn=turn):
                    self.assertIs(covers(boxes, box), not rest)
                    self.parted(uncovered(boxes, box), rest, columns)
                    self.assertIs(covers(boxes + uncovered(boxes, box), box), True)

    def test_no_boxes_and_empty_boxes(self):
        box, empty = Box(MIXED, {"who": "ann"}), Box(MIXED, {"day": (2, 1)})
        self.assertIs(covers([], box), False)
        self.assertEqual(uncovered([], box), [box])
        self.assertIs(covers([], empty), True)
        self.assertEqual(uncovered([], empty), [])
        self.assertIs(covers([box], empty), True)
        self.assertEqual(uncovered([empty, box], empty), [])
        self.assertIs(covers([empty], box), False)
        self.assertEqual(uncovered([empty], box), [box])

    def test_only_together(self):
        box = Box(DAY, {"day": (1, None)})
        parts = [Box(DAY, {"day": limit}) for limit in (1, (2, 9), (10, None))]
        self.assertIs(covers(parts, box), True)
        for part in parts:
            rest = [each for each in parts if each != part]
            self.assertIs(covers(rest, box), False)
            self.assertEqual(uncovered(rest, box), [part])

    def test_infinite_boxes_far_from_the_bounds(self):
        most = [Box(MIXED, {"who": ("not", "ann")}), Box(MIXED, {"day": (0, 10 ** 50)})]
        rest = uncovered(most, Box(MIXED, {}))
        self.assertEqual(rest, [Box(MIXED, {"who": "ann", "day": (10 ** 50 + 1, None)})])
        self.assertIs(covers(most, Box(MIXED, {"who": "ann"})), False)
        self.assertIs(covers(most, Box(MIXED, {"who": "ann", "day": (3, 10 ** 50)})), True)

    def test_many_parts_of_six_columns(self):
        chance = Random(2)
        parts = [Box(SIX, {})]
        while len(parts) < 60:
            part = parts.pop(chance.randrange(len(parts)))
            halves = Box(SIX, {chance.choice("bdf"): (None, chance.randrange(40))})
            if chance.random() < 0.4:
                halves = Box(SIX, {chance.choice("ace"): ("in", *chance.sample("pqrstu", 3))})
            parts.extend([each for each in [part & halves] + (part - halves) if each])
        chance.shuffle(parts)
        self.assertIs(covers(parts, Box(SIX, {})), True)
        self.assertEqual(uncovered(parts, Box(SIX, {})), [])
        rest = uncovered(parts[1:], Box(SIX, {}))
        self.assertIs(covers(rest, parts[0]), True)
        self.assertTrue(all(each.is_inside(parts[0]) for each in rest))
        self.assertFalse(any(one & other for at, one in enumerate(rest) for other in rest[:at]))

    def test_box_comes_first(self):
        for value in NO_BOXES:
            for boxes in ([], [Box(MIXED, {})], [None], ["x", Box(DAY, {})]):
                with self.subTest(value=value):
                    self.refused(value, covers, boxes, value)
                    self.refused(value, uncovered, boxes, value)

    def test_the_first_invalid_element(self):
        box = Box(MIXED, {"who": "ann"})
        for whole in (box, Box(MIXED, {}), Box(MIXED, {"who": ("in",)})):
            for value in NO_LIKE_BOXES:
                for boxes in ([value], [box, value], [Box(MIXED, {}), value, None], [box, value, Box(WHO, {})]):
                    with self.subTest(value=value, boxes=len(boxes)):
                        self.refused(value, covers, boxes, whole)
                        self.refused(value, uncovered, boxes, whole)

    def test_by_name(self):
        box = Box(DAY, {"day": 1})
        self.assertIs(covers(box=box, boxes=[box]), True)
        self.assertEqual(uncovered(box=box, boxes=[]), [box])

    def test_arguments_do_not_change(self):
        boxes = [Box(DAY, {"day": 3}), Box(DAY, {"day": 1})]
        box = Box(DAY, {})
        self.assertEqual(len(uncovered(boxes, box)), 3)
        self.assertIs(covers(boxes, box), False)
        self.assertEqual(boxes, [Box(DAY, {"day": 3}), Box(DAY, {"day": 1})])
        self.assertEqual(box, Box(DAY, {}))


class WorldTest(unittest.TestCase):
    def test_two_boxes_that_differ_differ_in_the_world(self):
        boxes = all_boxes(DAY)
        self.assertEqual(len({frozenset(rows_in(box)) for box in boxes}), 5 + 4 + 3 + 2 + 1)
        self.assertEqual(len({frozenset(rows_in(box)) for box in all_boxes(WHO)}), 8)
        self.assertEqual(len(world(FOUR)), 225)


if __name__ == "__main__":
    unittest.main()
