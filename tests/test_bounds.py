"""Points 2, 3 (a), (b) and 7 to 9: present, sure and possible rows."""

import unittest
from random import Random

from surestreams.bounds import is_possible, possible_boxes, present, sure
from surestreams.boxes import Box, covers
from surestreams.errors import InvalidRow, UnknownStream
from surestreams.queries import source
from surestreams.streams import Stream
from tests.plain import (
    COMPARED, MIXED, NUMBERS, ONE, WORDS, all_results, drawn_query, drawn_sources, drawn_streams, evaluated, few_open_streams,
    later, now, only_open, open_pairs, turned, world,
)

P, Q, R = [source(name, WORDS) for name in "pqr"]
N = source("n", NUMBERS)
WAY = [("a", "b"), ("b", "c"), ("c", "a"), ("c", "d"), ("d", "d"), ("e", "f")]


def streams_of(columns, **rows):
    """Returns streams with these rows, by their names."""
    streams = {}
    for name, each in rows.items():
        streams[name] = Stream(name, columns)
        for row in each:
            streams[name].add(row)
    return streams


def promised(streams, **limits):
    """Adds promises to streams, each a list of limits; returns the streams."""
    for name, each in limits.items():
        for limit in each:
            streams[name].promise(limit)
    return streams


class PresentTest(unittest.TestCase):
    def holds(self, query, streams, rows):
        self.assertEqual(present(query, streams), rows)
        self.assertEqual(present(query, streams), sorted(evaluated(query, now(query, streams))))

    def test_where_words(self):
        streams = streams_of(WORDS, p=[("a", "x"), ("b", "y"), ("in", "x")])
        self.holds(P.where("b", "=", "x"), streams, [("a", "x"), ("in", "x")])
        self.holds(P.where("b", "!=", "x"), streams, [("b", "y")])
        self.holds(P.where("a", "!=", "in"), streams, [("a", "x"), ("b", "y")])
        self.holds(P.where("a", "=", "z"), streams, [])

    def test_where_numbers(self):
        streams = streams_of(NUMBERS, n=[(number, 10 - number) for number in range(5)])
        for sign in COMPARED:
            for value in range(7):
                rows = [row for row in streams["n"].rows() if COMPARED[sign](row[0], value)]
                self.holds(N.where("n", sign, value), streams, rows)
                self.holds(N.where("m", sign, value + 5), streams, [
                    row for row in streams["n"].rows() if COMPARED[sign](row[1], value + 5)
                ])

    def test_columns(self):
        streams = streams_of(WORDS, p=WAY)
        self.holds(P["a"], streams, [("a",), ("b",), ("c",), ("d",), ("e",)])
        self.holds(P["b", "a"], streams, sorted(row[::-1] for row in WAY))
        self.holds(P["a", "b"], streams, WAY)

    def test_renamed(self):
        self.holds(P.renamed("a", "z"), streams_of(WORDS, p=WAY), WAY)
        self.holds(P.renamed("a", "a"), streams_of(WORDS, p=WAY), WAY)

    def test_joins(self):
        streams = streams_of(WORDS, p=WAY, q=[("a", "b"), ("x", "y"), ("c", "d")])
        self.holds(P & Q, streams, [("a", "b"), ("c", "d")])
        self.holds(P & Q["b"], streams, [("a", "b"), ("c", "d"), ("d", "d")])
        self.holds(P & Q["b", "a"], streams, [("a", "b"), ("c", "d")])
        self.holds(P.renamed("b", "c") & Q.renamed("a", "c"), streams, [("b", "c", "d"), ("c", "a", "b")])
        self.holds(
            P["a"].where("a", "=", "e") & Q.renamed("a", "x").renamed("b", "y"), streams,
            [("e", "a", "b"), ("e", "c", "d"), ("e", "x", "y")],
        )

    def test_a_join_with_itself(self):
        streams = streams_of(WORDS, p=WAY)
        self.holds(P & P, streams, WAY)
        self.holds(P.renamed("b", "c") & P.renamed("a", "c"), streams, sorted(
            (one, other, last) for one, other in WAY for first, last in WAY if other == first
        ))

    def test_unions_and_differences(self):
        streams = streams_of(WORDS, p=WAY, q=[("a", "b"), ("x", "y")])
        self.holds(P | Q, streams, WAY + [("x", "y")])
        self.holds(P - Q, streams, WAY[1:])
        self.holds(Q - P, streams, [("x", "y")])

    def test_closures_of_words(self):
        for rows in ([], WAY[:1], [("a", "a")], WAY[:2], WAY[:3], WAY, [("a", "b"), ("b", "a")], [("x", "y"), ("z", "x")]):
            streams = streams_of(WORDS, p=rows)
            expected = sorted(evaluated(P.closure(), {"p": rows}))
            self.holds(P.closure(), streams, expected)
            self.holds(P.closure().closure(), streams, expected)
        self.assertEqual(
            present(P.closure(), streams_of(WORDS, p=[("a", "b"), ("b", "c"), ("c", "b")])),
            [("a", "b"), ("a", "c"), ("b", "b"), ("b", "c"), ("c", "b"), ("c", "c")],
        )

    def test_closures_of_numbers(self):
        chain = [(number, number + 1) for number in range(9)]
        self.holds(N.closure(), streams_of(NUMBERS, n=chain), [(one, other) for one in range(10) for other in range(one + 1, 10)])
        ring = [(number, (number + 1) % 5) for number in range(5)]
        self.holds(N.closure(), streams_of(NUMBERS, n=ring), [(one, other) for one in range(5) for other in range(5)])
        self.holds(N.closure().where("n", "=", 1)["m"], streams_of(NUMBERS, n=ring), [(number,) for number in range(5)])

    def test_drawn_queries(self):
        for seed in range(600):
            chance = Random(seed)
            query = drawn_query(chance, drawn_sources(chance), 5)
            streams = drawn_streams(chance, query, rows=20)
            with self.subTest(seed=seed):
                self.assertEqual(present(query, streams), sorted(evaluated(query, now(query, streams))))

    def test_deep_queries(self):
        query = N
        for _ in range(20):
            query = query.where("n", "!=", 7).renamed("n", "n")
        streams = streams_of(NUMBERS, n=[(7, 0), (8, 0)])
        self.assertEqual((present(query, streams), sure(query, streams)), ([(8, 0)], [(8, 0)]))
        self.assertEqual([is_possible(query, streams, (number, 1)) for number in (6, 7, 8)], [True, False, True])


class SureTest(unittest.TestCase):
    def test_all_sets_of_few_open_rows(self):
        for seed in range(250):
            chance = Random(seed)
            query = drawn_query(chance, drawn_sources(chance), 5)
            streams = few_open_streams(chance, query)
            results = all_results(query, streams)
            with self.subTest(seed=seed):
                self.assertEqual(sure(query, streams), sorted(set.intersection(*results)))
                possible = set.union(*results)
                boxes = possible_boxes(query, streams)
                self.assertTrue(all(boxes))
                for row in world(query.columns):
                    self.assertIs(is_possible(query, streams, row), row in possible)
                    self.assertEqual(any(row in box for box in boxes), row in possible)

    def test_drawn_sets_of_infinitely_many_open_rows(self):
        for seed in range(200):
            chance = Random(seed)
            query = drawn_query(chance, drawn_sources(chance), 6)
            streams = drawn_streams(chance, query)
            pairs = open_pairs(query, streams, more=True)
            rows = set(sure(query, streams))
            boxes = possible_boxes(query, streams)
            for _ in range(4):
                chosen = chance.sample(pairs, min(len(pairs), chance.randrange(30)))
                result = evaluated(query, later(query, streams, chosen))
                with self.subTest(seed=seed):
                    self.assertLessEqual(rows, result)
                    self.assertTrue(all(any(row in box for box in boxes) for row in result))

    def test_all_open_rows_of_one_side(self):
        for seed in range(250):
            chance = Random(seed)
            query = drawn_query(chance, drawn_sources(chance), 5)
            streams = drawn_streams(chance, query)
            boxes = possible_boxes(query, streams)
            possible = evaluated(query, turned(query, streams, "add"))
            with self.subTest(seed=seed):
                self.assertEqual(sure(query, streams), sorted(evaluated(query, turned(query, streams, "take"))))
                self.assertTrue(all(boxes))
                for row in world(query.columns):
                    self.assertEqual(any(row in box for box in boxes), row in possible)
                for row in chance.sample(world(query.columns), 3):
                    self.assertIs(is_possible(query, streams, row), row in possible)

    def test_rows_of_sources_are_sure(self):
        streams = streams_of(WORDS, p=WAY[::-1])
        for query in (P, P.where("a", "!=", "c"), P["b"], P.closure(), P & P["a"], P | P.where("a", "=", "b")):
            self.assertEqual(sure(query, streams), present(query, streams))

    def test_a_promise_makes_rows_sure(self):
        streams = streams_of(WORDS, p=WAY, q=[("a", "b")])
        self.assertEqual(sure(P - Q, streams), [])
        streams["q"].promise({"a": ("in", "c", "a")})
        self.assertEqual(sure(P - Q, streams), [("c", "a"), ("c", "d")])
        streams["q"].promise({"b": ("not", "f", "d")})
        self.assertEqual(sure(P - Q, streams), [("b", "c"), ("c", "a"), ("c", "d")])
        streams["q"].promise({})
        self.assertEqual(sure(P - Q, streams), WAY[1:])

    def test_rows_are_sure_by_other_rows(self):
        streams = promised(streams_of(WORDS, p=[("a", "x"), ("a", "y"), ("b", "x")], q=[]), q=[{"b": "y"}])
        self.assertEqual(sure((P - Q)["a"], streams), [("a",)])
        self.assertEqual(sure((P - Q)["a"] | P["a"].where("a", "=", "b"), streams), [("a",), ("b",)])

    def test_taking_away_from_what_is_taken_away(self):
        streams = streams_of(WORDS, p=[("a", "b"), ("b", "c")], q=[], r=[("a", "b")])
        self.assertEqual(sure(P - (Q - R), streams), [("a", "b")])
        self.assertIs(is_possible(P - (Q - R), streams, ("b", "c")), True)
        streams["q"].add(("b", "c"))
        self.assertEqual((present(P - (Q - R), streams), sure(P - (Q - R), streams)), ([("a", "b")], [("a", "b")]))
        self.assertIs(is_possible(P - (Q - R), streams, ("b", "c")), True)
        streams["r"].promise({"a": "b"})
        self.assertIs(is_possible(P - (Q - R), streams, ("b", "c")), False)

    def test_reduced_columns_take_away(self):
        streams = promised(streams_of(WORDS, p=WAY, q=[]), q=[{"a": "a", "b": ("not", "z")}])
        query = P["a"] - Q["a"]
        self.assertEqual(sure(query, streams), [])
        streams["q"].promise({"b": "z"})
        self.assertEqual(sure(query, streams), [("a",)])

    def test_closures_take_away(self):
        streams = streams_of(WORDS, p=[("a", "c"), ("b", "c")], q=[])
        query = P - Q.closure()
        for limits in ({"a": "a", "b": ("not", "z")}, {"a": "z", "b": ("not", "y")}, {"b": "q"}):
            streams["q"].promise(limits)
            self.assertEqual(sure(query, streams), [])
        streams["q"].promise({"a": "z"})
        self.assertEqual(sure(query, streams), [("a", "c")])

    def test_closures_of_what_may_go(self):
        streams = promised(streams_of(WORDS, p=WAY, q=[]), q=[{"a": ("in", "a", "b")}, {"b": "a"}])
        ring = [(one, other) for one in "abc" for other in "abc"]
        self.assertEqual(sure((P - Q).closure(), streams), ring)
        streams["q"].promise({"b": "d"})
        self.assertEqual(sure((P - Q).closure(), streams), sorted(ring + [(one, "d") for one in "abcd"]))

    def test_everything_is_promised(self):
        for seed in range(40):
            chance = Random(seed)
            query = drawn_query(chance, drawn_sources(chance), 5)
            streams = drawn_streams(chance, query, rows=12)
            for stream in streams.values():
                stream.promise({})
            with self.subTest(seed=seed):
                self.assertEqual(sure(query, streams), present(query, streams))
                boxes = possible_boxes(query, streams)
                self.assertEqual(sorted(row for row in world(query.columns) if any(row in box for box in boxes)), sure(query, streams))


class PossibleTest(unittest.TestCase):
    def test_rows_far_from_all_others(self):
        streams = promised(streams_of(NUMBERS, n=[(3, 4)], m=[(10 ** 50, 7)]), n=[{"n": (None, 100)}], m=[{"n": (5, 10 ** 40)}])
        query = N - source("m", NUMBERS)
        for row, expected in (
            ((3, 4), True), ((3, 5), False), ((100, 10 ** 50), False), ((101, 0), True), ((10 ** 50, 7), False),
            ((10 ** 50, 8), True), ((10 ** 55, 10 ** 55), True),
        ):
            self.assertIs(is_possible(query, streams, row), expected)

    def test_other_words(self):
        streams = promised(streams_of(WORDS, p=[("zeppelin", "a")]), p=[{"a": ("not", "airship")}])
        for row, expected in (
            (("zeppelin", "a"), True), (("zeppelin", "b"), False), (("airship", "zeppelin"), True), (("balloon", "a"), False),
        ):
            self.assertIs(is_possible(P, streams, row), expected)
        self.assertIs(is_possible(P.closure(), streams, ("airship", "a")), True)
        self.assertIs(is_possible(P.closure(), streams, ("zeppelin", "b")), False)
        self.assertIs(is_possible(P.where("a", "!=", "airship"), streams, ("zeppelin", "a")), True)

    def test_closures_pass_any_value(self):
        streams = promised(streams_of(NUMBERS, n=[]), n=[{"n": (None, 9), "m": (None, 19)}, {"n": (10, None), "m": (5, None)}])
        self.assertIs(is_possible(N, streams, (3, 4)), False)
        self.assertIs(is_possible(N.closure(), streams, (3, 4)), True)
        self.assertIs(is_possible(N.closure(), streams, (3, 5)), False)
        self.assertIs(is_possible(N.closure(), streams, (3, 10 ** 20)), True)

    def test_boxes_are_boxes_of_the_columns(self):
        streams = promised(streams_of(WORDS, p=WAY), p=[{"a": ("not", "x", "y")}])
        for query in (P, P["b"], P.closure(), P.where("a", "=", "x"), P & P["a"], P.renamed("a", "z")):
            boxes = possible_boxes(query, streams)
            self.assertTrue(all(isinstance(box, Box) and box.columns == query.columns for box in boxes))
            self.assertTrue(all(boxes))
        self.assertEqual(possible_boxes(P.where("a", "=", "z"), streams), [])

    def test_a_filter_that_allows_no_number(self):
        streams = streams_of(NUMBERS, n=[(0, 0)])
        self.assertEqual(possible_boxes(N.where("n", "<", 0), streams), [])
        self.assertIs(is_possible(N.where("n", "<", 0), streams, (0, 0)), False)
        self.assertIs(covers(possible_boxes(N.where("n", "!=", 0), streams), Box(NUMBERS, {"n": (1, None)})), True)
        self.assertIs(is_possible(N.where("n", "!=", 0), streams, (0, 0)), False)
        self.assertIs(is_possible(N.where("n", "<=", 0), streams, (0, 9)), True)

    def test_many_rows_in_six_columns(self):
        columns = tuple((name, "word" if name in "ace" else "number") for name in "abcdef")
        chance = Random(1)
        rows = [tuple(chance.choice("xyz") if name in "ace" else chance.randrange(3) for name, _ in columns) for _ in range(200)]
        streams = streams_of(columns, p=[], q=rows)
        query = source("p", columns) - source("q", columns)
        boxes = possible_boxes(query, streams)
        for row in rows:
            self.assertFalse(any(row in box for box in boxes))
            other = ("z",) + row[1:]
            self.assertEqual(any(other in box for box in boxes), other not in streams["q"])


class StreamsTest(unittest.TestCase):
    def calls(self, query, row):
        return [
            lambda streams: present(query, streams), lambda streams: sure(query, streams),
            lambda streams: is_possible(query, streams, row), lambda streams: possible_boxes(query, streams),
        ]

    def unknown(self, query, streams, name):
        for row in (("a", "b"), None, ("a", 3)):
            for call in self.calls(query, row):
                with self.assertRaises(UnknownStream) as caught:
                    call(streams)
                self.assertEqual(caught.exception.stream, name)

    def test_the_first_name_that_is_wrong(self):
        query = R - (Q - P)
        good = streams_of(WORDS, p=[], q=[], r=[])
        self.unknown(query, {}, "p")
        for name in "pqr":
            self.unknown(query, {key: stream for key, stream in good.items() if key != name}, name)
            for value in (None, name, [], {}, WORDS, query, Stream, Stream(name, WORDS[::-1]), Stream(name, MIXED), Stream(name, ONE)):
                self.unknown(query, {**good, name: value}, name)
        self.unknown(query, {"r": None, "q": good["q"], "p": Stream("p", ONE)}, "p")
        self.unknown(query, {"r": None, "p": good["p"]}, "q")

    def test_other_keys_do_not_matter(self):
        streams = streams_of(WORDS, p=WAY, q=[])
        more = {**streams, "x": None, "P": 3, 5: Stream("z", ONE), None: [], ("p",): {}, True: P, b"p": object()}
        for one, other in zip(self.calls(P - Q, ("a", "b")), self.calls(P - Q, ("a", "b"))):
            self.assertEqual(one(streams), other(more))

    def test_the_keys_count_not_the_own_names(self):
        streams = streams_of(WORDS, p=WAY, q=WAY[:1])
        turned_names = {"p": streams["q"], "q": streams["p"]}
        self.assertEqual(present(P - Q, streams), WAY[1:])
        self.assertEqual(present(Q - P, turned_names), WAY[1:])

    def test_one_stream_under_two_names(self):
        stream = streams_of(WORDS, p=WAY)["p"]
        streams = {"p": stream, "q": stream}
        self.assertEqual((present(P - Q, streams), sure(P | Q, streams)), ([], WAY))
        self.assertIs(is_possible(P - Q, streams, ("x", "y")), True)
        self.assertIs(is_possible(P - Q, streams, ("a", "b")), False)
        stream.promise({"a": "x"})
        self.assertIs(is_possible(P - Q, streams, ("x", "y")), False)

    def test_invalid_rows(self):
        streams = streams_of(WORDS, p=WAY)
        for row in (None, (), ("a",), ("a", 3), ["a", "b"], ("a", "b", "c"), ("A", "b"), "ab", {}, ([], "a")):
            with self.assertRaises(InvalidRow) as caught:
                is_possible(P, streams, row)
            self.assertIs(caught.exception.value, row)
        with self.assertRaises(InvalidRow):
            is_possible(P["a"], streams, ("a", "b"))

    def test_nothing_changes(self):
        streams = promised(streams_of(WORDS, p=WAY, q=WAY[:2]), q=[{"a": "c"}])
        for call in self.calls(P - Q, ("a", "b")):
            first = call(streams)
            again = call(streams)
            self.assertEqual(first, again)
            if isinstance(first, list):
                self.assertIsNot(first, again)
                first.append("x")
                self.assertEqual(call(streams), again)
        self.assertEqual([streams["p"].rows(), streams["q"].rows(), len(streams["q"].promises())], [WAY, WAY[:2], 1])

    def test_by_name(self):
        streams = streams_of(WORDS, p=WAY)
        self.assertEqual(present(streams=streams, query=P), sure(streams=streams, query=P))
        self.assertIs(is_possible(row=("a", "b"), streams=streams, query=P), True)
        self.assertEqual(possible_boxes(streams=streams, query=P), [Box(WORDS, {})])

    def test_few_rows_are_left_open(self):
        streams = streams_of(WORDS, p=WAY)
        only_open(streams["p"], [("x", "y"), ("z", "z")])
        self.assertEqual([pair[1] for pair in open_pairs(P, streams, more=True)], [])
        self.assertIs(is_possible(P, streams, ("x", "y")), True)
        self.assertIs(is_possible(P, streams, ("x", "z")), False)


if __name__ == "__main__":
    unittest.main()
