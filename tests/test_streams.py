"""Points 2, 3 (d) to (f) and 6: streams."""

import unittest
from random import Random

from surestreams.boxes import Box
from surestreams.errors import BrokenPromise, InvalidBox, InvalidColumns, InvalidRow, UnknownStream
from surestreams.streams import Stream
from tests.worlds import MIXED, all_boxes, random_box, rows_in, world

DAY = (("day", "number"),)
WHO = (("who", "word"),)
NO_ROWS = [None, True, (), ("ann",), ("ann", 3, 3), ["ann", 3], ("ann", True), ("ann", -1), ("Ann", 3), (3, "ann"), "ann", {}]
NO_LIMITS = [None, [], {"whom": "ann"}, {"day": True}, {"who": ("ann", "bob")}, {"day": (1, 2, 3)}, {"who": 3}, {3: 3}]
NO_NAMES = [None, 3, True, "", "Log", "a b", ("log",), ["log"], b"log", {}, object()]
NO_COLUMNS = [None, (), [("day", "number")], (("day", "text"),), ("day", "number"), (("day", "number"),) * 2]


def drawn_stream(seed, columns=MIXED, rows=6, promises=5):
    """Returns a stream of rows and promises that are drawn, in any order."""
    chance = Random(seed)
    stream = Stream("log", columns)
    for _ in range(rows + promises):
        row = chance.choice(world(columns))
        if chance.random() < rows / (rows + promises):
            if stream.is_open(row):
                stream.add(row)
        else:
            stream.promise(random_box(columns, chance).limits())
    return stream


def contents(stream):
    """Returns all that tells what a stream holds."""
    return (
        stream.name, stream.columns, stream.rows(), [box.limits() for box in stream.promises()], len(stream),
        [row for row in world(stream.columns) if row in stream],
        [row for row in world(stream.columns) if stream.is_open(row)],
        stream.superfluous(), [box.limits() for box in stream.open_boxes({})],
    )


class StreamCase(unittest.TestCase):
    def refused(self, error, field, value, call, *arguments):
        with self.assertRaises(error) as caught:
            call(*arguments)
        self.assertIs(getattr(caught.exception, field), value)

    def unchanged(self, stream):
        """Returns a check that a stream holds the same as now."""
        before = contents(stream)
        return lambda: self.assertEqual(contents(stream), before)


class RowsTest(StreamCase):
    def test_a_new_stream(self):
        stream = Stream("log", MIXED)
        self.assertEqual((stream.name, stream.columns), ("log", MIXED))
        self.assertEqual((stream.rows(), stream.promises(), len(stream), stream.superfluous()), ([], [], 0, []))
        self.assertTrue(stream.is_open(("ann", 3)))
        self.assertIs(stream.closed({}), False)
        self.assertEqual(stream.open_boxes({}), [Box(MIXED, {})])

    def test_by_name(self):
        stream = Stream(columns=MIXED, name="log")
        self.assertIs(stream.add(row=("ann", 3)), True)
        self.assertEqual(stream.promise(limits={"day": 3}), 0)
        self.assertIs(stream.is_open(row=("bob", 4)), True)
        self.assertIs(stream.closed(limits={"day": 3}), True)
        self.assertEqual(stream.open_boxes(limits={"day": 3}), [])

    def test_properties_are_not_assigned(self):
        stream = Stream("log", MIXED)
        for name in ("name", "columns"):
            with self.assertRaises(AttributeError):
                setattr(stream, name, "x")

    def test_rows_and_promises_in_any_order(self):
        for seed in range(60):
            chance = Random(seed)
            stream = Stream("log", MIXED)
            rows, boxes = [], []
            for _ in range(12):
                if chance.random() < 0.3:
                    box = random_box(MIXED, chance)
                    self.assertEqual(stream.promise(box.limits()), len(boxes))
                    boxes.append(box)
                    continue
                row = chance.choice(world(MIXED))
                first = next((index for index, box in enumerate(boxes) if row in box), None)
                if row not in rows and first is not None:
                    self.refused(BrokenPromise, "index", first, stream.add, row)
                    continue
                self.assertIs(stream.add(row), row not in rows)
                rows = sorted(set(rows + [row]))
            with self.subTest(seed=seed):
                self.assertEqual(stream.rows(), rows)
                self.assertEqual(len(stream), len(rows))
                self.assertEqual(stream.promises(), boxes)
                self.assertEqual([row for row in world(MIXED) if row in stream], [row for row in world(MIXED) if row in rows])

    def test_rows_in_ascending_order(self):
        stream = Stream("log", MIXED)
        rows = [("b", 2), ("aa", 10), ("a", 100), ("b", 10), ("ab", 0), ("a", 9)]
        for row in rows:
            stream.add(row)
        self.assertEqual(stream.rows(), [("a", 9), ("a", 100), ("aa", 10), ("ab", 0), ("b", 2), ("b", 10)])

    def test_repeated_rows(self):
        stream = Stream("log", DAY)
        self.assertEqual([stream.add((3,)), stream.add((3,)), stream.add((4,))], [True, False, True])
        stream.promise({})
        self.assertEqual([stream.add((3,)), stream.add((4,)), len(stream)], [False, False, 2])
        self.refused(BrokenPromise, "index", 0, stream.add, (5,))

    def test_the_first_broken_promise(self):
        stream = Stream("log", DAY)
        for limits in ({"day": (8, 5)}, {"day": (2, 4)}, {"day": 3}, {"day": (3, None)}, {"day": (2, 4)}):
            stream.promise(limits)
        for day, index in ((2, 1), (3, 1), (4, 1), (5, 3), (10 ** 40, 3)):
            self.refused(BrokenPromise, "index", index, stream.add, (day,))
        self.assertEqual([stream.add((0,)), stream.add((1,)), stream.rows()], [True, True, [(0,), (1,)]])

    def test_promises_are_boxes_in_order(self):
        stream = Stream("log", MIXED)
        given = [{}, {"day": 3}, {"day": 3}, {"who": ("in",)}, {"who": ("not", "b", "a"), "day": (None, 4)}]
        self.assertEqual([stream.promise(limits) for limits in given], [0, 1, 2, 3, 4])
        self.assertEqual(stream.promises(), [Box(MIXED, limits) for limits in given])
        self.assertTrue(all(isinstance(box, Box) for box in stream.promises()))

    def test_any_value_in_a_stream(self):
        stream = Stream("log", MIXED)
        stream.add(("ann", 1))
        self.assertIs(("ann", 1) in stream, True)
        for value in NO_ROWS + [("ann", 2), ("bob", 1), stream, MIXED, ([], 1), ("ann", 1.0), {1}, ("ann", [])]:
            with self.subTest(value=value):
                self.assertIs(value in stream, False)


class OpenTest(StreamCase):
    def agrees(self, stream, box):
        """closed and open_boxes agree with is_open for the rows of the small part of the world."""
        rows = {row for row in rows_in(box) if stream.is_open(row)}
        pieces = stream.open_boxes(box.limits())
        self.assertIs(type(pieces), list)
        self.assertTrue(all(isinstance(piece, Box) and piece.columns == stream.columns for piece in pieces))
        self.assertTrue(all(pieces))
        found = [rows_in(piece) for piece in pieces]
        self.assertEqual(sum(len(part) for part in found), len(rows))
        self.assertEqual(set().union(*found), rows)
        for at, piece in enumerate(pieces):
            self.assertFalse(any(piece & other for other in pieces[:at]))
        self.assertIs(stream.closed(box.limits()), not pieces)

    def test_is_open(self):
        for seed in range(80):
            stream = drawn_stream(seed)
            with self.subTest(seed=seed):
                promised = set().union(*[rows_in(box) for box in stream.promises()])
                for row in world(MIXED):
                    self.assertIs(stream.is_open(row), row not in stream and row not in promised)

    def test_all_boxes_of_one_column(self):
        for columns in (DAY, WHO):
            for seed in range(15):
                stream = drawn_stream(seed, columns, 3, 2)
                for box in all_boxes(columns):
                    with self.subTest(seed=seed, limits=box.limits()):
                        self.agrees(stream, box)

    def test_many_boxes_of_more_columns(self):
        for seed in range(150):
            stream = drawn_stream(seed, MIXED, 9, 4)
            chance = Random(seed)
            for _ in range(8):
                with self.subTest(seed=seed):
                    self.agrees(stream, random_box(MIXED, chance))

    def test_rows_are_cut_out_of_finite_boxes(self):
        stream = Stream("log", MIXED)
        limits = {"who": ("in", "a", "b"), "day": (1, 2)}
        for row in (("a", 1), ("a", 2), ("b", 1)):
            stream.add(row)
            self.assertIs(stream.closed(limits), False)
        self.assertEqual(stream.open_boxes(limits), [Box(MIXED, {"who": "b", "day": 2})])
        stream.add(("b", 2))
        self.assertIs(stream.closed(limits), True)
        self.assertEqual(stream.open_boxes(limits), [])

    def test_rows_are_cut_out_of_infinite_boxes(self):
        stream = Stream("log", DAY)
        for day in (0, 5, 6, 9):
            stream.add((day,))
        pieces = sorted((box.limits() for box in stream.open_boxes({})), key=str)
        self.assertEqual(pieces, [{"day": (1, 4)}, {"day": (10, None)}, {"day": (7, 8)}])
        self.assertIs(stream.closed({"day": (5, 6)}), True)
        self.assertIs(stream.closed({"day": (5, 7)}), False)
        self.assertIs(stream.closed({"day": (9, None)}), False)

    def test_rows_and_promises_close_a_box_together(self):
        stream = Stream("log", MIXED)
        stream.promise({"who": ("not", "a"), "day": (None, 3)})
        stream.promise({"who": "a", "day": (1, 3)})
        self.assertIs(stream.closed({"day": (None, 3)}), False)
        self.assertEqual(stream.open_boxes({"day": (None, 3)}), [Box(MIXED, {"who": "a", "day": 0})])
        stream.add(("a", 0))
        self.assertIs(stream.closed({"day": (None, 3)}), True)

    def test_empty_boxes_are_closed(self):
        for limits in ({"day": (5, 3)}, {"who": ("in",)}, {"who": ("in",), "day": (2, 1)}):
            self.assertIs(Stream("log", MIXED).closed(limits), True)
            self.assertEqual(Stream("log", MIXED).open_boxes(limits), [])

    def test_far_rows(self):
        stream = Stream("log", MIXED)
        stream.add(("zeppelin", 10 ** 50))
        stream.promise({"who": ("not", "zeppelin")})
        self.assertIs(stream.is_open(("zeppelin", 10 ** 50)), False)
        self.assertIs(stream.is_open(("zeppelin", 10 ** 50 + 1)), True)
        self.assertIs(stream.closed({"day": 10 ** 50}), True)
        self.assertIs(stream.closed({"day": (10 ** 50, 10 ** 50 + 1)}), False)
        self.assertFalse(any(("zeppelin", 10 ** 50) in box for box in stream.open_boxes({})))

    def test_many_rows_in_six_columns(self):
        columns = tuple((name, "word" if name in "ace" else "number") for name in "abcdef")
        stream = Stream("log", columns)
        chance = Random(5)
        rows = [tuple(chance.choice("xyz") if name in "ace" else chance.randrange(4) for name, _ in columns) for _ in range(200)]
        for row in rows:
            stream.add(row)
        pieces = stream.open_boxes({})
        for row in rows:
            self.assertFalse(any(row in box for box in pieces))
            other = row[:5] + (row[5] + 1,)
            self.assertEqual(sum(other in box for box in pieces), 0 if other in stream else 1)


class SuperfluousTest(StreamCase):
    def superfluous(self, columns, *limits):
        stream = Stream("log", columns)
        for each in limits:
            stream.promise(each)
        return stream.superfluous()

    def test_equal_promises(self):
        self.assertEqual(self.superfluous(DAY, {"day": 3}, {"day": 5}, {"day": (3, 3)}), [0, 2])
        self.assertEqual(self.superfluous(DAY, {}, {}), [0, 1])

    def test_promises_inside_others(self):
        self.assertEqual(self.superfluous(DAY, {"day": (1, 5)}, {"day": (2, 4)}, {"day": 9}), [1])
        self.assertEqual(self.superfluous(MIXED, {}, {"who": "a"}), [1])
        self.assertEqual(self.superfluous(MIXED, {"day": 3}, {"who": "a"}), [])

    def test_several_others_together(self):
        self.assertEqual(self.superfluous(DAY, {"day": (0, 3)}, {"day": (2, 6)}, {"day": (4, 9)}), [1])
        self.assertEqual(self.superfluous(MIXED, {"who": "a"}, {"who": ("not", "a"), "day": 1}, {"day": 1}), [1, 2])
        self.assertEqual(self.superfluous(DAY, {"day": (5, None)}, {}, {"day": (None, 4)}), [0, 1, 2])

    def test_empty_promises(self):
        self.assertEqual(self.superfluous(DAY, {"day": (5, 3)}), [0])
        self.assertEqual(self.superfluous(WHO, {"who": "a"}, {"who": ("in",)}, {"who": ("not", "a")}), [1])

    def test_only_one_promise(self):
        self.assertEqual(self.superfluous(DAY, {}), [])
        self.assertEqual(self.superfluous(DAY), [])

    def test_rows_do_not_matter(self):
        stream = Stream("log", DAY)
        stream.add((3,))
        stream.promise({"day": 3})
        self.assertEqual(stream.superfluous(), [])

    def test_like_the_document_for_drawn_promises(self):
        for seed in range(150):
            stream = drawn_stream(seed, MIXED, 0, 6)
            rows = [rows_in(box) for box in stream.promises()]
            found = [
                at for at, part in enumerate(rows) if part <= set().union(*rows[:at], *rows[at + 1:])
            ]
            with self.subTest(seed=seed):
                self.assertEqual(stream.superfluous(), found)


class ErrorsTest(StreamCase):
    def test_a_wrong_name_comes_first(self):
        for name in NO_NAMES:
            for columns in [MIXED] + NO_COLUMNS:
                with self.subTest(name=name, columns=columns):
                    self.refused(UnknownStream, "stream", name, Stream, name, columns)

    def test_wrong_columns(self):
        for columns in NO_COLUMNS:
            with self.subTest(columns=columns):
                self.refused(InvalidColumns, "value", columns, Stream, "log", columns)

    def test_wrong_rows_come_before_promises(self):
        stream = Stream("log", MIXED)
        stream.add(("ann", 3))
        for limits in (None, {}):
            if limits is not None:
                stream.promise(limits)
            check = self.unchanged(stream)
            for row in NO_ROWS:
                with self.subTest(row=row):
                    self.refused(InvalidRow, "value", row, stream.add, row)
                    self.refused(InvalidRow, "value", row, stream.is_open, row)
            check()

    def test_wrong_limits(self):
        stream = drawn_stream(3)
        check = self.unchanged(stream)
        for limits in NO_LIMITS:
            with self.subTest(limits=limits):
                self.refused(InvalidBox, "value", limits, stream.promise, limits)
                self.refused(InvalidBox, "value", limits, stream.closed, limits)
                self.refused(InvalidBox, "value", limits, stream.open_boxes, limits)
        check()

    def test_a_broken_promise_changes_nothing(self):
        stream = Stream("log", DAY)
        stream.add((7,))
        stream.promise({"day": (None, 4)})
        check = self.unchanged(stream)
        self.refused(BrokenPromise, "index", 0, stream.add, (2,))
        check()


class CopiesTest(StreamCase):
    def test_copies_go_their_own_way(self):
        for seed in range(30):
            stream = drawn_stream(seed)
            other = stream.copy()
            self.assertEqual(contents(other), contents(stream))
            check, check_other = self.unchanged(stream), None
            for row in world(MIXED):
                if other.is_open(row):
                    other.add(row)
                    break
            other.promise({"who": "in"})
            check()
            check_other = self.unchanged(other)
            stream.promise({})
            stream.copy().promise({})
            check_other()

    def test_returned_lists_are_new(self):
        stream = drawn_stream(8)
        check = self.unchanged(stream)
        for call in (stream.rows, stream.promises, stream.superfluous, lambda: stream.open_boxes({})):
            found = call()
            again = call()
            self.assertEqual(found, again)
            self.assertIsNot(found, again)
            found.append("x")
            del found[0]
        for box in stream.promises():
            box.limits()["who"] = "x"
        check()

    def test_arguments_may_change_afterwards(self):
        stream = Stream("log", MIXED)
        limits = {"who": ("in", "ann"), "day": (1, 4)}
        stream.promise(limits)
        self.assertEqual(limits, {"who": ("in", "ann"), "day": (1, 4)})
        check = self.unchanged(stream)
        limits.clear()
        check()
        limits["day"] = (3, 9)
        stream.closed(limits)
        stream.open_boxes(limits)
        self.assertEqual(limits, {"day": (3, 9)})
        check()

    def test_questions_change_nothing(self):
        stream = drawn_stream(4)
        before = contents(stream)
        self.assertEqual([contents(stream) for _ in range(3)], [before] * 3)

    def test_equal_contents_give_equal_answers(self):
        for seed in range(20):
            stream = drawn_stream(seed)
            other = Stream("log", MIXED)
            for row in reversed(stream.rows()):
                other.add(row)
            for box in stream.promises():
                other.promise(box.limits())
            self.assertEqual(contents(other), contents(stream))


if __name__ == "__main__":
    unittest.main()
