"""Points 2, 3 (g) and 11: counts, sums, least and greatest values and first rows."""

import unittest
from random import Random

from surestreams.errors import InvalidQuery, UnknownStream
from surestreams.groups import counts, firsts, greatests, leasts, sums
from surestreams.queries import source
from surestreams.streams import Stream
from tests.plain import (
    MIXED, NUMBERS, all_results, drawn_query, drawn_sources, drawn_streams, evaluated, few_open_streams, later, now, open_pairs,
    turned,
)

LOG = (("who", "word"), ("day", "number"))
THREE = (("a", "number"), ("b", "number"), ("c", "word"))
P, Q = source("p", LOG), source("q", LOG)
VALUES = [None, True, 3, 1.5, "", "Who", "whom", [], ["who"], {}, object(), b"who", ("who",), "who"]


def log(name, rows, *promises):
    """Returns a stream with these rows and promises."""
    stream = Stream(name, LOG)
    for row in rows:
        stream.add(row)
    for limits in promises:
        stream.promise(limits)
    return stream


def number_columns(query):
    """Returns the positions and names of the number columns."""
    return [(at, name) for at, (name, kind) in enumerate(query.columns) if kind == "number"]


def table(results, places, value):
    """Returns a dict from keys to the values that their groups have in all results."""
    tables = []
    for result in results:
        groups = {}
        for row in result:
            groups.setdefault(tuple(row[at] for at in places), []).append(row)
        tables.append({key: value(rows) for key, rows in groups.items()})
    first, *others = tables
    return {key: found for key, found in first.items() if all(each.get(key) == found for each in others)}


def first_rows(results, at, number):
    """Returns the rows that are in all results with fewer than number smaller rows."""
    found = [
        row for row in set.intersection(*results)
        if all(sum(other[at] < row[at] for other in result) < number for result in results)
    ]
    return sorted(found, key=lambda row: (row[at], row))


class DrawnTest(unittest.TestCase):
    def agrees(self, chance, query, streams, results, numbers=(0, 1, 2, 4, 50)):
        """All functions agree with the results of all continuations."""
        names = [name for name, _ in query.columns]
        for _ in range(2):
            keys = tuple(chance.sample(names, chance.randrange(len(names) + 1)))
            places = [names.index(name) for name in keys]
            self.assertEqual(counts(query, streams, keys), table(results, places, len))
            for at, name in number_columns(query):
                for call, value in ((sums, sum), (leasts, min), (greatests, max)):
                    expected = table(results, places, lambda rows: value(row[at] for row in rows))
                    self.assertEqual(call(query, streams, keys, name), expected)
        for at, name in number_columns(query):
            for number in numbers:
                self.assertEqual(firsts(query, streams, name, number), first_rows(results, at, number))

    def test_all_sets_of_few_open_rows(self):
        for seed in range(220):
            chance = Random(seed)
            query = drawn_query(chance, drawn_sources(chance, (MIXED, NUMBERS, THREE) if seed % 4 == 0 else (MIXED, NUMBERS)), 4)
            streams = few_open_streams(chance, query, 3)
            with self.subTest(seed=seed):
                self.agrees(chance, query, streams, all_results(query, streams))

    def test_infinitely_many_open_rows(self):
        for seed in range(220):
            chance = Random(seed)
            query = drawn_query(chance, drawn_sources(chance, (MIXED, NUMBERS)), 4)
            streams = drawn_streams(chance, query)
            results = [evaluated(query, turned(query, streams, side)) for side in ("add", "take")]
            results.append(evaluated(query, now(query, streams)))
            with self.subTest(seed=seed):
                # The part of the world has more than four rows of each infinite box.
                self.agrees(chance, query, streams, results, (0, 1, 2, 4))

    def test_drawn_continuations_change_nothing(self):
        for seed in range(120):
            chance = Random(seed)
            query = drawn_query(chance, drawn_sources(chance, (MIXED, NUMBERS)), 4)
            streams = drawn_streams(chance, query)
            pairs = open_pairs(query, streams, more=True)
            names = [name for name, _ in query.columns]
            keys = tuple(chance.sample(names, chance.randrange(len(names) + 1)))
            places = [names.index(name) for name in keys]
            for _ in range(5):
                chosen = chance.sample(pairs, min(len(pairs), chance.randrange(12)))
                results = [evaluated(query, later(query, streams, chosen))]
                with self.subTest(seed=seed):
                    self.assertLessEqual(counts(query, streams, keys).items(), table(results, places, len).items())
                    for at, name in number_columns(query):
                        found = firsts(query, streams, name, 3)
                        self.assertLessEqual(set(found), set(first_rows(results, at, 3)))
                        for call, value in ((sums, sum), (leasts, min), (greatests, max)):
                            expected = table(results, places, lambda rows: value(row[at] for row in rows))
                            self.assertLessEqual(call(query, streams, keys, name).items(), expected.items())


class GroupsTest(unittest.TestCase):
    ROWS = [("ann", 5), ("ann", 7), ("bob", 3), ("cid", 0)]

    def test_keys(self):
        streams = {"p": log("p", self.ROWS, {})}
        self.assertEqual(counts(P, streams, ()), {(): 4})
        self.assertEqual(counts(P, streams, ("who",)), {("ann",): 2, ("bob",): 1, ("cid",): 1})
        self.assertEqual(counts(P, streams, ("day",)), {(5,): 1, (7,): 1, (3,): 1, (0,): 1})
        self.assertEqual(counts(P, streams, ("who", "day")), {row: 1 for row in self.ROWS})
        self.assertEqual(counts(P, streams, ("day", "who")), {row[::-1]: 1 for row in self.ROWS})
        self.assertEqual(sums(P, streams, ("who",), "day"), {("ann",): 12, ("bob",): 3, ("cid",): 0})
        self.assertEqual(leasts(P, streams, (), "day"), {(): 0})
        self.assertEqual(greatests(P, streams, (), "day"), {(): 7})
        self.assertEqual(sums(P, streams, ("day",), "day"), {(5,): 5, (7,): 7, (3,): 3, (0,): 0})

    def test_no_rows(self):
        for promises in ((), ({},)):
            streams = {"p": log("p", [], *promises)}
            self.assertEqual(counts(P, streams, ()), {})
            for call in (sums, leasts, greatests):
                self.assertEqual(call(P, streams, (), "day"), {})
            self.assertEqual(firsts(P, streams, "day", 3), [])

    def test_groups_without_open_rows(self):
        streams = {"p": log("p", self.ROWS, {"who": ("in", "ann", "dan")}, {"who": "bob", "day": (4, None)})}
        self.assertEqual(counts(P, streams, ("who",)), {("ann",): 2})
        self.assertEqual(sums(P, streams, ("who",), "day"), {("ann",): 12})
        self.assertEqual(counts(P, streams, ()), {})
        self.assertEqual(counts(P, streams, ("who", "day")), {row: 1 for row in self.ROWS})

    def test_sums_where_only_the_value_nought_may_come(self):
        streams = {"p": log("p", self.ROWS, {"day": (1, None)})}
        self.assertEqual(counts(P, streams, ("who",)), {("cid",): 1})
        self.assertEqual(sums(P, streams, ("who",), "day"), {("ann",): 12, ("bob",): 3, ("cid",): 0})
        self.assertEqual(sums(P, streams, (), "day"), {(): 15})
        self.assertEqual(leasts(P, streams, ("who",), "day"), {("cid",): 0})
        self.assertEqual(greatests(P, streams, ("who",), "day"), {("ann",): 7, ("bob",): 3, ("cid",): 0})

    def test_least_values_where_only_greater_rows_are_open(self):
        streams = {"p": log("p", self.ROWS, {"day": (None, 4)})}
        self.assertEqual(leasts(P, streams, ("who",), "day"), {("ann",): 5, ("bob",): 3, ("cid",): 0})
        self.assertEqual(leasts(P, streams, (), "day"), {(): 0})
        for call in (sums, greatests):
            self.assertEqual(call(P, streams, ("who",), "day"), {})
        streams["p"].promise({"who": "ann", "day": (0, 6)})
        self.assertEqual(greatests(P, streams, ("who",), "day"), {})

    def test_greatest_values_where_only_smaller_rows_are_open(self):
        streams = {"p": log("p", self.ROWS, {"day": (7, None)}, {"day": (4, 5)})}
        self.assertEqual(greatests(P, streams, ("who",), "day"), {("ann",): 7})
        self.assertEqual(greatests(P, streams, (), "day"), {(): 7})
        streams["p"].promise({"day": 6})
        self.assertEqual(greatests(P, streams, ("who",), "day"), {("ann",): 7, ("bob",): 3})
        streams["p"].promise({"who": "cid", "day": (1, 4)})
        self.assertEqual(greatests(P, streams, ("who",), "day"), {("ann",): 7, ("bob",): 3, ("cid",): 0})

    def test_rows_that_may_go_away(self):
        streams = {"p": log("p", self.ROWS, {}), "q": log("q", [], {"day": (1, 5)}, {"who": ("in", "eve", "cid")})}
        self.assertEqual(counts(P - Q, streams, ("who",)), {("bob",): 1, ("cid",): 1})
        self.assertEqual(leasts(P - Q, streams, ("who",), "day"), {("ann",): 5, ("bob",): 3, ("cid",): 0})
        self.assertEqual(greatests(P - Q, streams, ("who",), "day"), {("bob",): 3, ("cid",): 0})
        self.assertEqual(sums(P - Q, streams, (), "day"), {})
        streams["q"] = log("q", [], {"day": (1, None)})
        self.assertEqual(sums(P - Q, streams, (), "day"), {(): 15})
        self.assertEqual(counts(P - Q, streams, ()), {})

    def test_a_group_that_may_go_away_has_no_sure_sum(self):
        streams = {"p": log("p", [("ann", 0)], {}), "q": log("q", [], {"day": (1, None)})}
        for call in (sums, leasts, greatests):
            self.assertEqual(call(P - Q, streams, ("who",), "day"), {})
        streams["q"].promise({})
        for call in (sums, leasts, greatests):
            self.assertEqual(call(P - Q, streams, ("who",), "day"), {("ann",): 0})

    def test_far_numbers(self):
        streams = {"p": log("p", [("ann", 10 ** 50), ("ann", 10 ** 50 + 1)], {"day": (None, 10 ** 50 - 1)})}
        self.assertEqual(leasts(P, streams, (), "day"), {(): 10 ** 50})
        self.assertEqual(greatests(P, streams, (), "day"), {})
        streams["p"].promise({"day": (10 ** 50 + 2, None)})
        self.assertEqual(greatests(P, streams, (), "day"), {(): 10 ** 50 + 1})
        streams["p"].promise({"who": "ann"})
        self.assertEqual(sums(P, streams, ("who",), "day"), {("ann",): 2 * 10 ** 50 + 1})


class FirstsTest(unittest.TestCase):
    ROWS = [("ann", 5), ("ann", 7), ("bob", 3), ("bob", 5), ("cid", 3), ("dan", 20)]
    ORDER = [("bob", 3), ("cid", 3), ("ann", 5), ("bob", 5), ("ann", 7), ("dan", 20)]

    def test_a_result_that_is_complete(self):
        streams = {"p": log("p", self.ROWS, {})}
        for number, length in ((0, 0), (1, 2), (2, 2), (3, 4), (4, 4), (5, 5), (6, 6), (7, 6), (10 ** 30, 6)):
            with self.subTest(number=number):
                self.assertEqual(firsts(P, streams, "day", number), self.ORDER[:length])

    def test_rows_that_may_still_come_before(self):
        streams = {"p": log("p", self.ROWS, {"day": (None, 3)})}
        self.assertEqual(firsts(P, streams, "day", 1), self.ORDER[:2])
        self.assertEqual(firsts(P, streams, "day", 10 ** 40), self.ORDER[:2])
        streams["p"].promise({"who": ("not", "eve")})
        for number, length in ((0, 0), (1, 2), (3, 2), (4, 4), (7, 4), (8, 5), (21, 5), (22, 6), (10 ** 40, 6)):
            with self.subTest(number=number):
                smaller = [sum(row[1] < day for row in self.ROWS) + max(0, day - 4) for _, day in self.ORDER]
                self.assertEqual(length, sum(many < number for many in smaller))
                self.assertEqual(firsts(P, streams, "day", number), self.ORDER[:length])

    def test_rows_that_may_go_away(self):
        streams = {"p": log("p", self.ROWS, {}), "q": log("q", [], {"who": ("not", "bob")})}
        self.assertEqual(firsts(P - Q, streams, "day", 1), [("cid", 3)])
        self.assertEqual(firsts(P - Q, streams, "day", 3), [("cid", 3), ("ann", 5)])
        self.assertEqual(firsts(P - Q, streams, "day", 2), [("cid", 3)])

    def test_the_same_row_in_several_boxes_counts_once(self):
        rows = [("ann", 9)]
        promise = {"day": (3, None)}
        streams = {name: log(name, rows if name == "p" else [], promise, {"who": ("not", "bob", name)}) for name in "pq"}
        query = (P | Q)["day"]
        self.assertEqual(firsts(query, streams, "day", 3), [])
        self.assertEqual(firsts(query, streams, "day", 4), [(9,)])

    def test_nought_comes_first(self):
        streams = {"p": log("p", [("ann", 0), ("bob", 0), ("cid", 1)])}
        self.assertEqual(firsts(P, streams, "day", 1), [("ann", 0), ("bob", 0)])
        self.assertEqual(firsts(P, streams, "day", 0), [])


class ErrorsTest(unittest.TestCase):
    def calls(self, query, streams, keys, column, number):
        """Returns the calls of all functions, each with the first of the arguments that it takes."""
        return {
            "counts": lambda: counts(query, streams, keys),
            "sums": lambda: sums(query, streams, keys, column),
            "leasts": lambda: leasts(query, streams, keys, column),
            "greatests": lambda: greatests(query, streams, keys, column),
            "firsts": lambda: firsts(query, streams, column, number),
        }

    def refused(self, error, field, value, call):
        with self.assertRaises(error) as caught:
            call()
        self.assertIs(getattr(caught.exception, field), value)

    def test_unknown_streams_come_first(self):
        for streams in ({"p": None}, {"p": Stream("p", NUMBERS)}, {"q": log("q", [])}, {}):
            for arguments in ((("who",), "day", 3), (None, None, None)):
                for call in self.calls(P, streams, *arguments).values():
                    self.refused(UnknownStream, "stream", "p", call)

    def test_keys_come_next(self):
        streams = {"p": log("p", [("ann", 3)])}
        wrong = [("who", "who"), ("whom",), ("who", None), ("who", ["day"]), (3,), ("who", "day", "who"), ("",)]
        for keys in wrong + [value for value in VALUES if value != ("who",)]:
            for column in ("day", None, "who"):
                calls = self.calls(P, streams, keys, column, 3)
                for name in ("counts", "sums", "leasts", "greatests"):
                    with self.subTest(name, keys=keys):
                        self.refused(InvalidQuery, "value", keys, calls[name])

    def test_columns_come_then(self):
        streams = {"p": log("p", [("ann", 3)])}
        for column in VALUES + ["number", ("day",), ("day", "number"), ["day"]]:
            for keys, number in (((), 3), (("day",), None)):
                calls = self.calls(P, streams, keys, column, number)
                for name in ("sums", "leasts", "greatests", "firsts"):
                    with self.subTest(name, column=column):
                        self.refused(InvalidQuery, "value", column, calls[name])

    def test_numbers_come_last(self):
        streams = {"p": log("p", [("ann", 3)])}
        for number in (None, True, False, -1, 1.5, "3", (), [3], {}, object()):
            self.refused(InvalidQuery, "value", number, self.calls(P, streams, (), "day", number)["firsts"])

    def test_columns_of_the_query_not_of_the_stream(self):
        streams = {"p": log("p", [("ann", 3)], {})}
        query = P.renamed("day", "time")
        self.refused(InvalidQuery, "value", "day", lambda: sums(query, streams, (), "day"))
        self.assertEqual(sums(query, streams, (), "time"), {(): 3})

    def test_new_values_each_time(self):
        streams = {"p": log("p", [("ann", 3), ("bob", 0)], {})}
        for call in self.calls(P, streams, ("who",), "day", 3).values():
            first, again = call(), call()
            self.assertEqual(first, again)
            self.assertIsNot(first, again)
            self.assertTrue(first)
            first.clear()
            self.assertEqual(call(), again)
        self.assertEqual(streams["p"].rows(), [("ann", 3), ("bob", 0)])

    def test_by_name(self):
        streams = {"p": log("p", [("ann", 3)], {})}
        self.assertEqual(counts(keys=(), streams=streams, query=P), {(): 1})
        for call in (sums, leasts, greatests):
            self.assertEqual(call(column="day", keys=(), streams=streams, query=P), {(): 3})
        self.assertEqual(firsts(number=1, column="day", streams=streams, query=P), [("ann", 3)])

if __name__ == "__main__":
    unittest.main()
