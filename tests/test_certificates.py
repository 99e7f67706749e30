"""Points 2, 3 (k) and 14: certificates that are made, and certificates that others wrote."""

import unittest
from copy import deepcopy
from random import Random

from surestreams.bounds import possible_boxes, sure
from surestreams.boxes import Box, covers
from surestreams.certificates import certificate, exclusion, is_certificate, is_exclusion, is_settled
from surestreams.errors import BrokenPromise, InvalidBox, InvalidRow, UnknownStream
from surestreams.queries import source
from surestreams.streams import Stream
from tests.judge import certifies, excludes, is_a_row
from tests.plain import (
    Rude, all_results, columns_of, drawn_limits, drawn_query, drawn_sources, drawn_streams, few_open_streams, world,
)

PAIR = (("a", "word"), ("b", "word"))
DAYS = (("n", "number"), ("m", "number"))
P, Q, R = [source(name, PAIR) for name in "pqr"]
D, E = [source(name, DAYS) for name in "de"]
ROW, EMPTY, AB, XY = ("row",), ("empty",), ("a", "b"), ("x", "y")
C0, C1 = ("closed", (0,)), ("closed", (1,))
NO_PAPERS = [
    Rude(), (Rude(),), ("row", Rude()), (Rude(), ("row",)), ("split", ((Rude(), ("empty",)),)), ("split", (({"a": Rude()}, ("empty",)),)), ("closed", (Rude(),)),
    ("split", (({(): "a"}, ("empty",)),)), ("columns", (Rude(), "a"), ("row",)), ("chain", (Rude(),), (("row",),)), ("cut", (Rude(),), (("not",),), ()),
    ("columns", Rude(), ("row",)), ("chain", ((Rude(), "b"),), (("row",),)), ("cut", (), (("in", Rude()),), (("row",),)),
    None, True, 0, 1, "", "row", b"row", (), [], {}, ["row"], [("row",)], ("row", ()), ("row", ("row",)), (("row",),), ("Row",), ("rows",), (None,), (1,), (True,),
    (["row"],), ({},), ("empty", ()), ("closed",), ("closed", 0), ("closed", [0]), ("closed", (0,), ()), ("split",), ("split", {}), ("split", []), ("cut", (), (), ()),
    ("where",), ("where", "row"), ("columns",), ("renamed",), ("join",), ("first",), ("minus",), ("chain",), ("chain", (), ()), ("sure", ("row",)), object(),
    Box, P, {"row": True}, ("row", None), ("union", ("row",), ("row",)), ("left", ("row",)), ("closed", ((0,),)), ("closed", (None,)),
]
NO_ROWS = [None, True, 3, "", "ab", (), ("a",), ("a", "b", "c"), ("a", 3), ["a", "b"], ("A", "b"), {}, ([], "a"), P]
NO_LIMITS = [None, 3, "*", (), [], {"c": "a"}, {"a": 3}, {"a": ["in"]}, {"a": ("a",)}, {3: "a"}, {"a": "A"}, {"a": True}]


def streams_of(query, rows, promises):
    """Returns the streams of a query with rows and promises by their names."""
    streams = {}
    for name, columns in columns_of(query).items():
        streams[name] = Stream(name, columns)
        for row in rows.get(name, []):
            streams[name].add(row)
        for limits in promises.get(name, []):
            streams[name].promise(limits)
    return streams


def places_in(value, path=()):
    """Returns the paths to all values that stand in a paper; dicts are not entered."""
    found = [path]
    if isinstance(value, tuple):
        for at, each in enumerate(value):
            found.extend(places_in(each, path + (at,)))
    return found


def at_path(value, path):
    """Returns the value at a path."""
    for at in path:
        value = value[at]
    return value


def with_value(value, path, new):
    """Returns the value with another one at a path."""
    if not path:
        return new
    return value[:path[0]] + (with_value(value[path[0]], path[1:], new),) + value[path[0] + 1:]


def changed_once(chance, paper, columns):
    """Returns a paper that is changed in one place."""
    path = chance.choice(places_in(paper))
    value = at_path(paper, path)
    choices = [None, (), [], "row", ("row",), ("empty",), ("closed", (0,)), 0, 1, True, {}, drawn_limits(chance, columns)]
    if isinstance(value, tuple):
        choices += [list(value), value[:-1], value[1:], value + value[-1:], value[::-1], value + ((),)]
        choices += [at_path(paper, chance.choice(places_in(paper)))] * 3
    elif isinstance(value, bool) or isinstance(value, int):
        choices += [value + 1, value - 1, bool(value), str(value), (value,)] * 2
    elif isinstance(value, str):
        choices += list("abxy") + ["first", "second", "left", "right", "in", "not", value.upper()]
    else:
        choices += [drawn_limits(chance, columns)] * 5 + [[value], {"a": 3}]
    return with_value(paper, path, chance.choice(choices))


def later_events(chance, streams, number):
    """Lets open rows and promises come to streams."""
    for _ in range(number):
        stream = streams[chance.choice(sorted(streams))]
        row = chance.choice(world(stream.columns))
        if chance.random() < 0.7 and stream.is_open(row):
            stream.add(row)
        else:
            stream.promise(drawn_limits(chance, stream.columns))


class CertificatesCase(unittest.TestCase):
    def certified(self, query, streams, row, value, expected=True):
        self.assertIs(is_certificate(query, streams, row, value), expected)
        self.assertIs(is_a_row(query.columns, row) and certifies(query, streams, row, value), expected)
        if expected:
            self.assertIn(row, sure(query, streams))

    def excluded(self, query, streams, limits, value, expected=True):
        self.assertIs(is_exclusion(query, streams, limits, value), expected)
        self.assertIs(excludes(query, streams, Box(query.columns, limits), value), expected)
        if expected:
            self.assertIsNotNone(exclusion(query, streams, limits))


class MadeTest(CertificatesCase):
    def test_exactly_the_sure_rows_and_the_boxes_without_possible_rows(self):
        for seed in range(200):
            chance = Random(seed)
            query = drawn_query(chance, drawn_sources(chance), 6)
            streams = few_open_streams(chance, query, 3)
            results = all_results(query, streams)
            certain, possible = set.intersection(*results), set.union(*results)
            with self.subTest(seed=seed):
                for row in world(query.columns):
                    paper = certificate(query, streams, row)
                    self.assertEqual(paper is not None, row in certain)
                    if paper is not None:
                        self.certified(query, streams, row, paper)
                for _ in range(8):
                    limits = drawn_limits(chance, query.columns)
                    box = Box(query.columns, limits)
                    rows = {row for row in possible if row in box}
                    paper = exclusion(query, streams, limits)
                    self.assertEqual(paper is None, bool(rows))
                    if paper is not None:
                        self.excluded(query, streams, limits, paper)
                    self.assertIs(is_settled(query, streams, limits), rows <= certain)

    def test_with_infinitely_many_open_rows(self):
        made = 0
        for seed in range(500):
            chance = Random(seed)
            query = drawn_query(chance, drawn_sources(chance), 6)
            streams = drawn_streams(chance, query, 8, 6)
            boxes = possible_boxes(query, streams)
            certain = sure(query, streams)
            with self.subTest(seed=seed):
                for row in certain:
                    self.certified(query, streams, row, certificate(query, streams, row))
                for _ in range(4):
                    limits = drawn_limits(chance, query.columns)
                    box = Box(query.columns, limits)
                    near = [box & each for each in boxes]
                    paper = exclusion(query, streams, limits)
                    self.assertEqual(paper is None, any(near))
                    points = [Box(query.columns, dict(zip([name for name, _ in query.columns], row))) for row in certain]
                    self.assertIs(is_settled(query, streams, limits), all(covers(points, each) for each in near))
                    if paper is not None:
                        made += 1
                        self.excluded(query, streams, limits, paper)
        self.assertGreater(made, 300)

    def test_papers_stay_accepted(self):
        for seed in range(250):
            chance = Random(seed)
            query = drawn_query(chance, drawn_sources(chance), 6)
            streams = drawn_streams(chance, query, 8, 6)
            papers = [(row, certificate(query, streams, row)) for row in sure(query, streams)]
            boxes = [drawn_limits(chance, query.columns) for _ in range(6)]
            shut = [(limits, exclusion(query, streams, limits)) for limits in boxes]
            for _ in range(3):
                later_events(chance, streams, 4)
                with self.subTest(seed=seed):
                    for row, paper in papers:
                        self.certified(query, streams, row, paper)
                    for limits, paper in shut:
                        if paper is not None:
                            self.excluded(query, streams, limits, paper)

    def test_changed_papers_are_judged_by_what_they_say(self):
        counted = {True: 0, False: 0}
        for seed in range(250):
            chance = Random(seed)
            query = drawn_query(chance, drawn_sources(chance), 5)
            streams = few_open_streams(chance, query, 3)
            results = all_results(query, streams)
            certain, possible = set.intersection(*results), set.union(*results)
            for row in sorted(certain)[:4]:
                paper = certificate(query, streams, row)
                for _ in range(12):
                    other = changed_once(chance, paper, query.columns)
                    about = row if chance.random() < 0.6 else chance.choice(world(query.columns))
                    with self.subTest(seed=seed, row=about, paper=other):
                        accepted = is_certificate(query, streams, about, other)
                        self.assertIs(accepted, certifies(query, streams, about, other))
                        self.assertTrue(about in certain or not accepted)
                        counted[accepted] += 1
            for _ in range(6):
                limits = drawn_limits(chance, query.columns)
                paper = exclusion(query, streams, limits)
                for _ in range(12 if paper else 0):
                    other = changed_once(chance, paper, query.columns)
                    about = limits if chance.random() < 0.6 else drawn_limits(chance, query.columns)
                    box = Box(query.columns, about)
                    with self.subTest(seed=seed, limits=about, paper=other):
                        accepted = is_exclusion(query, streams, about, other)
                        self.assertIs(accepted, excludes(query, streams, box, other))
                        self.assertFalse(accepted and any(row in box for row in possible))
                        counted[accepted] += 1
        self.assertGreater(min(counted.values()), 300)

    def test_returned_dicts_are_new(self):
        query = P - Q
        streams = streams_of(query, {"p": [AB, XY], "q": [AB, XY]}, {"p": [{}]})
        paper = exclusion(query, streams, {})
        before = deepcopy(paper)
        dicts = [limits for limits, _ in paper[1]]
        self.assertEqual(len({id(each) for each in dicts}), len(dicts))
        for each in dicts:
            each.clear()
        self.assertEqual(exclusion(query, streams, {}), before)
        self.excluded(query, streams, {}, before)

    def test_arguments_do_not_change(self):
        query = P - Q
        streams = streams_of(query, {"p": [AB, XY], "q": [AB, XY]}, {"p": [{}]})
        paper = exclusion(query, streams, {"a": ("in", "x", "a", "x")})
        limits, before = {"a": ("in", "x", "a", "x")}, deepcopy(paper)
        self.assertIs(is_exclusion(query, streams, limits, paper), True)
        self.assertEqual((limits, paper), ({"a": ("in", "x", "a", "x")}, before))
        self.assertEqual([len(streams[name].promises()) for name in "pq"], [1, 0])

    def test_many_rows(self):
        rows = [(f"{one}{other}", f"{other}{one}") for one in "abcdefghijk" for other in "lmnopqrstuv"]
        query = P - Q
        streams = streams_of(query, {"p": rows, "q": rows}, {"p": [{}]})
        self.assertIs(is_exclusion(query, streams, {}, exclusion(query, streams, {})), True)
        days = [(number, number + 2) for number in range(80)]
        streams = streams_of(D.closure(), {"d": days}, {"d": [{}]})
        paper = exclusion(D.closure(), streams, {"n": 0, "m": 81})
        self.assertIs(is_exclusion(D.closure(), streams, {"n": 0, "m": 81}, paper), True)
        self.assertIsNone(exclusion(D.closure(), streams, {"n": 0, "m": 80}))
        query = D & E.renamed("m", "k")
        streams = streams_of(query, {"d": days, "e": [(number + 1000, 0) for number in range(80)]}, {"d": [{}], "e": [{}]})
        self.assertIs(is_exclusion(query, streams, {}, exclusion(query, streams, {})), True)


class RowPapersTest(CertificatesCase):
    def test_sources(self):
        streams = streams_of(P, {"p": [AB]}, {"p": [{}]})
        self.certified(P, streams, AB, ROW)
        for row, value in ((XY, ROW), (AB, ("row", ROW)), (AB, ["row"]), (AB, ("where", ROW)), (AB, EMPTY), (AB, C0), (AB, ()), (AB, "row")):
            self.certified(P, streams, row, value, False)

    def test_where(self):
        streams = streams_of(P, {"p": [AB, XY]}, {})
        query = P.where("a", "=", "a")
        self.certified(query, streams, AB, ("where", ROW))
        for row, value in ((XY, ("where", ROW)), (("a", "c"), ("where", ROW)), (AB, ROW), (AB, ("where",)), (AB, ("where", ROW, ROW)), (AB, ["where", ROW])):
            self.certified(query, streams, row, value, False)
        days = streams_of(D, {"d": [(0, 5), (3, 5), (4, 5)]}, {})
        for sign, numbers in (("=", [3]), ("!=", [0, 4]), ("<", [0]), ("<=", [0, 3]), (">", [4]), (">=", [3, 4])):
            for number in (0, 3, 4):
                self.certified(D.where("n", sign, 3), days, (number, 5), ("where", ROW), number in numbers)

    def test_columns(self):
        streams = streams_of(P, {"p": [AB, ("a", "c"), XY]}, {})
        query = P["a"]
        for inner in (AB, ("a", "c")):
            self.certified(query, streams, ("a",), ("columns", inner, ROW))
        for value in (
            ("columns", XY, ROW), ("columns", ("a", "d"), ROW), ("columns", ROW), ("columns", ("a",), ROW), ("columns", ["a", "b"], ROW), ("columns", "ab", ROW),
            ("columns", AB, ROW, ROW), ("columns", ROW, AB), ("columns", ("a", "b", "c"), ROW), ("columns", None, ROW), ("columns", ("a", 3), ROW), ROW,
        ):
            self.certified(query, streams, ("a",), value, False)
        self.certified(P["b", "a"], streams, ("b", "a"), ("columns", AB, ROW))
        self.certified(P["b", "a"], streams, AB, ("columns", AB, ROW), False)
        days = streams_of(D, {"d": [(1, 0)]}, {})
        self.certified(D["n"], days, (1,), ("columns", (1, 0), ROW))
        for inner in ((True, 0), (1, False), (1.0, 0), (1, "0")):
            self.certified(D["n"], days, (1,), ("columns", inner, ROW), False)
        self.certified(D["n"], days, (True,), ("columns", (1, 0), ROW), False)

    def test_renamed(self):
        streams = streams_of(P, {"p": [AB]}, {})
        query = P.renamed("a", "z")
        self.certified(query, streams, AB, ("renamed", ROW))
        for value in (ROW, ("renamed",), ("renamed", ("renamed", ROW)), ("renamed", ROW, "a"), ["renamed", ROW]):
            self.certified(query, streams, AB, value, False)

    def test_joins(self):
        query = P & Q["b"]
        streams = streams_of(query, {"p": [AB, ("a", "c")], "q": [XY, ("x", "b")]}, {})
        paper = ("join", ROW, ("columns", ("x", "b"), ROW))
        self.certified(query, streams, AB, paper)
        self.certified(query, streams, ("a", "c"), paper, False)
        self.certified(query, streams, ("a", "c"), ("join", ROW, ("columns", ("x", "c"), ROW)), False)
        for value in (("join", paper[2], ROW), paper[:2], paper + (ROW,), list(paper), ("join", (ROW, paper[2])), ("join", ROW, ("columns", XY, ROW))):
            self.certified(query, streams, AB, value, False)
        wide = P.renamed("b", "c") & Q
        streams = streams_of(wide, {"p": [AB], "q": [("a", "x"), ("b", "x")]}, {})
        self.certified(wide, streams, ("a", "b", "x"), ("join", ("renamed", ROW), ROW))
        self.certified(wide, streams, ("b", "b", "x"), ("join", ("renamed", ROW), ROW), False)

    def test_unions(self):
        streams = streams_of(P | Q, {"p": [AB], "q": [XY]}, {})
        self.certified(P | Q, streams, AB, ("first", ROW))
        self.certified(P | Q, streams, XY, ("second", ROW))
        for row, value in ((AB, ("second", ROW)), (XY, ("first", ROW)), (AB, ROW), (AB, ("first", ROW, ROW)), (AB, ["first", ROW]), (AB, ("union", ROW, ROW))):
            self.certified(P | Q, streams, row, value, False)
        streams = streams_of(P | Q, {"p": [AB], "q": [AB]}, {})
        for word in ("first", "second"):
            self.certified(P | Q, streams, AB, (word, ROW))

    def test_minus(self):
        query = P - Q
        streams = streams_of(query, {"p": [AB, XY], "q": [("a", "c")]}, {"q": [{"a": "z"}, {"a": "a", "b": ("not", "c")}, {"a": "x"}]})
        for row, value, expected in (
            (AB, ("minus", ROW, C1), True), (XY, ("minus", ROW, ("closed", (2,))), True), (XY, ("minus", ROW, C1), False), (AB, ("minus", ROW, C0), False),
            (AB, ("minus", ROW, ("closed", (1, 0, 2, 1))), True), (AB, ("minus", C1, ROW), False), (AB, ("minus", ROW), False), (AB, ROW, False),
            (AB, ("minus", ROW, EMPTY), False), (AB, ["minus", ROW, C1], False), (("a", "c"), ("minus", ROW, C1), False),
            (AB, ("minus", ROW, ("split", (({}, C1),))), True), (AB, ("minus", ROW, ("split", (({"a": "a"}, C1), ({"a": ("not", "a")}, EMPTY)))), True),
            (AB, ("minus", ROW, ("split", (({"a": ("not", "a")}, EMPTY),))), False),
        ):
            self.certified(query, streams, row, value, expected)
        nested = P - (Q - R)
        streams = streams_of(nested, {"p": [AB], "q": [AB], "r": [AB]}, {})
        self.certified(nested, streams, AB, ("minus", ROW, ("sure", ROW)))
        self.certified(nested, streams, AB, ("minus", ROW, ("first", C0)), False)

    def test_closures(self):
        streams = streams_of(P, {"p": [AB, ("b", "c"), ("c", "b"), ("c", "d"), ("d", "d")]}, {})
        query = P.closure()
        short, long = (AB, ("b", "c"), ("c", "d")), (AB, ("b", "c"), ("c", "b"), ("b", "c"), ("c", "d"), ("d", "d"))
        for pairs in (short, long):
            self.certified(query, streams, ("a", "d"), ("chain", pairs, (ROW,) * len(pairs)))
            self.certified(query, streams, ("a", "c"), ("chain", pairs, (ROW,) * len(pairs)), False)
        self.certified(query, streams, ("d", "d"), ("chain", (("d", "d"),), (ROW,)))
        for value in (
            ("chain", short, (ROW,) * 2), ("chain", short, (ROW,) * 4), ("chain", short[1:], (ROW,) * 2), ("chain", short[:2], (ROW,) * 2), ("chain", short[::-1], (ROW,) * 3),
            ("chain", (AB, ("c", "d")), (ROW,) * 2), ("chain", list(short), (ROW,) * 3), ("chain", short, [ROW] * 3), ("chain", (), ()), ("chain", short), short,
            ("chain", (("a", "d"),), (ROW,)), ("chain", (["a", "b"],) + short[1:], (ROW,) * 3), ("chain", short, ROW), ("chain", short, (ROW, ROW, ["row"])),
            ("chain", (AB, ("b", "c"), ("c", "d", "d")), (ROW,) * 3), ("chain", (AB, "bc", ("c", "d")), (ROW,) * 3), ROW, ("chain", short, (ROW,) * 3, ()),
        ):
            self.certified(query, streams, ("a", "d"), value, False)
        self.certified(query, streams, ("a", "a"), ("chain", (), ()), False)
        days = streams_of(D, {"d": [(0, 1), (1, 2)]}, {})
        self.certified(D.closure(), days, (0, 2), ("chain", ((0, 1), (1, 2)), (ROW, ROW)))
        for pairs in (((0, True), (1, 2)), ((0, 1), (True, 2)), ((False, 1), (1, 2))):
            self.certified(D.closure(), days, (0, 2), ("chain", pairs, (ROW, ROW)), False)

    def test_values_of_every_other_kind(self):
        for query in (P, P.where("a", "!=", "z"), P["a", "b"], P.renamed("a", "a"), P & Q, P | Q, P - R, P.closure()):
            streams = streams_of(query, {"p": [AB], "q": [AB]}, {"r": [{}]})
            self.assertIn(AB, sure(query, streams))
            good = certificate(query, streams, AB)
            for value in NO_PAPERS + [list(good), (good,), good + ((),)]:
                self.assertIs(is_certificate(query, streams, AB, value), False)
            for row in NO_ROWS:
                self.assertIs(is_certificate(query, streams, row, good), False)


class BoxPapersTest(CertificatesCase):
    def test_empty_boxes(self):
        for query in (P, P.where("a", "=", "a"), P["a", "b"], P.renamed("a", "a"), P & Q, P | Q, P - Q, P.closure()):
            streams = streams_of(query, {"p": [AB], "q": [AB]}, {})
            for limits in ({"a": ("in",)}, {"b": ("in",), "a": "a"}):
                for value in (EMPTY, ("split", ()), ("split", (({"a": "x"}, EMPTY),)), ("split", (({}, EMPTY), ({}, EMPTY)))):
                    self.excluded(query, streams, limits, value)
                for value in (("empty", EMPTY), ["empty"], ("split", (({}, EMPTY), ({}, ROW))), ("split", ({}, EMPTY)), ("split", ((EMPTY, {}),))):
                    self.excluded(query, streams, limits, value, False)
            for value in (EMPTY, ("split", ()), ("split", (({"a": ("in",)}, EMPTY),))):
                self.excluded(query, streams, {"a": "a", "b": "b"}, value, False)
        streams = streams_of(D, {}, {})
        self.excluded(D, streams, {"n": (5, 3)}, EMPTY)
        self.excluded(D, streams, {"n": (3, 3)}, EMPTY, False)

    def test_sources(self):
        streams = streams_of(D, {"d": [(7, 7)]}, {"d": [{"n": (None, 3)}, {"n": (4, 9), "m": (None, 5)}, {"n": (4, 9)}, {"n": (20, None)}]})
        for limits, value, expected in (
            ({"n": 2}, C0, True), ({"n": 2}, C1, False), ({"n": (2, 5)}, C0, False), ({"n": (2, 5)}, ("closed", (0, 2)), True), ({"n": (2, 5)}, ("closed", (2, 0)), True),
            ({"n": (2, 5)}, ("closed", (2, 0, 2, 0, 1, 3)), True), ({"n": (2, 5), "m": (3, 4)}, ("closed", (0, 1)), True), ({"n": (2, 5), "m": 6}, ("closed", (0, 1)), False),
            ({"n": (2, 9)}, ("closed", (0, 2)), False), ({"n": 7, "m": 7}, ("closed", (2,)), False), ({"n": 7, "m": 8}, ("closed", (2,)), True),
            ({"n": (2, 9), "m": (None, 6)}, ("closed", (0, 2)), True), ({"n": (2, 10), "m": 0}, ("closed", (0, 1, 2, 3)), False), ({"n": (3, 2)}, ("closed", ()), True),
            ({"n": 2}, ("closed", ()), False), ({"n": 2}, ("closed", (4, 0)), False), ({"n": 2}, ("closed", (0, -1)), False), ({"n": 2}, ("closed", (False,)), False),
            ({"n": 5, "m": 0}, ("closed", (True,)), False), ({"n": 5, "m": 0}, ("closed", (1,)), True), ({"n": 2}, ("closed", [0]), False), ({"n": 2}, ["closed", (0,)], False),
            ({"n": 2}, ("closed", 0), False), ({"n": 2}, ("closed", ("0",)), False), ({"n": 2}, ("closed", (0.0,)), False), ({"n": 2}, ("closed", (0,), ()), False),
            ({"n": 2}, ("closed", (None,)), False), ({"n": 2}, ROW, False), ({"n": (None, 3)}, C0, True), ({}, ("closed", (0, 1, 2, 3)), False),
        ):
            with self.subTest(limits=limits, value=value):
                self.excluded(D, streams, limits, value, expected)

    def test_splits(self):
        streams = streams_of(D, {}, {"d": [{"n": (None, 3)}, {"n": (4, None)}]})
        low, high = ({"n": (None, 3)}, C0), ({"n": (4, None)}, C1)
        void = ({"n": (9, 3)}, EMPTY)
        for pairs, expected in (
            ((low, high), True), ((high, low), True), ((low, high, low), True), ((low, void, high), True), ((low, high, ({"n": (5, 3)}, C0)), True), ((low,), False),
            ((high,), False), ((), False), ((low, ({"n": (5, None)}, C1)), False), ((low, ({"n": (3, None)}, C1)), False), ((({"n": (0, 2)}, C0), ({"n": 3, "m": (0, None)}, C0), high), True),
            ((({}, ("closed", (1, 0))),), True), ((({}, ("split", (high, low))),), True), ((low, ({}, ("split", (high, low)))), True), ((({}, C0),), False), ((low, high, ({}, C0)), False),
            ([low, high], False), ((list(low), high), False), ((low, high, ()), False), ((low, high, ({},)), False), ((low, high + (1,)), False), ((low, ({"n": (4, True)}, C1)), False),
            ((low, ({"x": (4, None)}, C1)), False), ((low, ({"n": "a"}, C1)), False), ((low, ((4, None), C1)), False), (low, False), ((low[::-1], high[::-1]), False),
        ):
            with self.subTest(pairs=pairs):
                self.excluded(D, streams, {}, ("split", pairs), expected)
        self.excluded(D, streams, {"n": (2, 6)}, ("split", (({"n": (1, 3)}, C0), ({"n": (4, 30)}, C1))))
        self.excluded(D, streams, {"n": (2, 6)}, ("split", (({"n": (3, None)}, ("split", (low, high))), low)))
        words = streams_of(P, {}, {"p": [{"a": "a"}, {"a": ("not", "a")}]})
        for limits in ("a", ("in", "a"), ("in", "a", "a")):
            self.excluded(P, words, {}, ("split", (({"a": limits}, C0), ({"a": ("not", "a", "a")}, C1))))
            self.excluded(P, words, {}, ("split", (({"a": ("not", "a", "a")}, C0), ({"a": limits}, C1))), False)

    def test_where(self):
        streams = streams_of(D, {}, {"d": [{"n": (None, 3)}, {"n": (5, None)}]})
        for sign, value, papers, expected in (
            ("=", 4, (C0,), False), ("=", 3, (C0,), True), ("=", 3, (C1,), False), ("=", 3, C0, False), ("=", 3, [C0], False), ("=", 3, (C0, C0), False), ("=", 3, (), False),
            ("<", 4, (C0,), True), ("<", 5, (C0,), False), ("<=", 3, (C0,), True), (">", 4, (C1,), True), (">=", 5, (C1,), True), (">", 3, (C1,), False), ("<", 0, (EMPTY,), True),
            ("<", 0, (C0,), True), ("<", 0, (("closed", ()),), True), ("<", 0, (), False), ("!=", 4, (C0, C1), True), ("!=", 4, (C1, C0), False), ("!=", 4, (C0,), False),
            ("!=", 4, (("closed", (0, 1)),) * 2, True), ("!=", 5, (C0, C1), False), ("!=", 4, (C0, C1, EMPTY), False), ("!=", 0, (C1,), False), ("!=", 0, (EMPTY, C1), False),
        ):
            with self.subTest(sign=sign, value=value, papers=papers):
                self.excluded(D.where("n", sign, value), streams, {}, ("where", papers), expected)
        self.excluded(D.where("n", "!=", 0), streams, {"n": (None, 3)}, ("where", (C0,)))
        self.excluded(D.where("n", "!=", 0), streams, {"n": (None, 3)}, ("where", (EMPTY, C0)), False)
        self.excluded(D.where("n", "!=", 4), streams, {"n": (1, 2)}, ("where", (C0, EMPTY)))
        self.excluded(D.where("n", "=", 4), streams, {"n": (1, 2)}, ("where", (EMPTY,)))
        words = streams_of(P, {}, {"p": [{"a": "a"}, {"a": ("not", "a")}]})
        self.excluded(P.where("a", "=", "a"), words, {}, ("where", (C0,)))
        self.excluded(P.where("a", "!=", "a"), words, {}, ("where", (C1,)))
        self.excluded(P.where("a", "!=", "a"), words, {}, ("where", (C0, C1)), False)

    def test_columns_and_renamed(self):
        streams = streams_of(P, {}, {"p": [{"a": "a"}, {"b": "b"}]})
        self.excluded(P["a"], streams, {"a": "a"}, ("columns", C0))
        self.excluded(P["b", "a"], streams, {"a": "a"}, ("columns", C0))
        self.excluded(P["b", "a"], streams, {"b": "b"}, ("columns", C1))
        self.excluded(P["b", "a"], streams, {"b": "a"}, ("columns", C0), False)
        self.excluded(P["a"], streams, {"a": "b"}, ("columns", C1), False)
        for value in (C0, ("columns", (C0,)), ("columns", C0, C0), ["columns", C0], ("columns", AB, C0), ("renamed", C0)):
            self.excluded(P["a"], streams, {"a": "a"}, value, False)
        query = P.renamed("a", "z")
        self.excluded(query, streams, {"z": "a"}, ("renamed", C0))
        for value in (C0, ("renamed", C1), ("renamed", C0, C0), ["renamed", C0]):
            self.excluded(query, streams, {"z": "a"}, value, False)
        turned = P.renamed("a", "z").renamed("b", "a")
        self.excluded(turned, streams, {"a": "b"}, ("renamed", ("renamed", C1)))
        self.excluded(turned, streams, {"a": "a"}, ("renamed", ("renamed", C0)), False)

    def test_joins(self):
        query = P & Q.renamed("b", "c")
        streams = streams_of(query, {}, {"p": [{"a": "a"}, {"b": "b"}], "q": [{"a": "x"}, {"b": "b"}]})
        for limits, value, expected in (
            ({"a": "a"}, ("left", C0), True), ({"a": "a"}, ("right", ("renamed", C0)), False), ({"b": "b"}, ("left", C1), True), ({"c": "b"}, ("left", C1), False),
            ({"c": "b"}, ("right", ("renamed", C1)), True), ({"a": "x"}, ("right", ("renamed", C0)), True), ({"a": "x"}, ("left", C0), False), ({"a": "a"}, ("left", C0, C0), False),
            ({"a": "a"}, ["left", C0], False), ({"a": "a"}, ("join", C0, C0), False), ({"a": ("in", "a", "x")}, ("left", C0), False), ({"a": "a"}, ("first", C0), False),
            ({"a": ("in", "a", "x")}, ("split", (({"a": "a"}, ("left", C0)), ({"a": "x"}, ("right", ("renamed", C0))))), True),
        ):
            with self.subTest(limits=limits, value=value):
                self.excluded(query, streams, limits, value, expected)

    def test_unions(self):
        streams = streams_of(P | Q, {}, {"p": [{"a": "a"}, {}], "q": [{"b": "b"}]})
        for limits, value, expected in (
            ({"a": "a", "b": "b"}, ("union", C0, C0), True), ({"b": "b"}, ("union", C1, C0), True), ({"b": "b"}, ("union", C0, C0), False), ({"a": "a"}, ("union", C0, C0), False),
            ({"b": "b"}, ("union", C0, C1), False), ({"b": "b"}, ("union", C1), False), ({"b": "b"}, ("union", (C1, C0)), False), ({"b": "b"}, ["union", C1, C0], False),
        ):
            self.excluded(P | Q, streams, limits, value, expected)

    def test_minus(self):
        query = P - Q
        streams = streams_of(query, {"q": [AB, ("a", "c")], "p": [AB]}, {"p": [{"a": "a", "b": ("not", "c")}]})
        for limits, value, expected in (
            ({"a": "a", "b": "b"}, ("sure", ROW), True), ({"a": ("in", "a", "a"), "b": ("in", "b")}, ("sure", ROW), True), ({"a": "a", "b": "c"}, ("sure", ROW), True),
            ({"a": "a", "b": "x"}, ("sure", ROW), False), ({"a": "a", "b": "x"}, ("first", C0), True), ({"a": "a", "b": "b"}, ("first", C0), False),
            ({"a": "a", "b": ("in", "b", "c")}, ("sure", ROW), False), ({"a": "a", "b": ("in",)}, ("sure", ROW), False), ({"a": "a", "b": "b"}, ("sure", ROW, ROW), False),
            ({"a": "a", "b": "b"}, ["sure", ROW], False), ({"a": "a", "b": "b"}, ("second", ROW), False), ({"a": "a"}, ("first", C0), False),
            ({"a": "a"}, ("split", (({"b": "b"}, ("sure", ROW)), ({"b": "c"}, ("sure", ROW)), ({"b": ("not", "b", "c")}, ("first", C0)))), True),
            ({"a": "a"}, ("split", (({"b": "b"}, ("sure", ROW)), ({"b": ("not", "b")}, ("first", C0)))), False),
            ({}, ("split", (({"b": "b"}, ("sure", ROW)), ({"b": "c"}, ("sure", ROW)), ({"b": ("not", "b", "c")}, ("first", C0)))), False),
        ):
            with self.subTest(limits=limits, value=value):
                self.excluded(query, streams, limits, value, expected)

    def test_closures(self):
        query = P.closure()
        streams = streams_of(query, {"p": [AB]}, {"p": [{"a": "a"}, {"a": "b"}]})
        inside, outside = (("in", "b"),), (("not", "b"),)
        good = ("cut", inside, outside, (C0, C1))
        limits = {"a": "a", "b": "c"}
        self.excluded(query, streams, limits, good)
        self.excluded(query, streams, {"a": "b"}, ("cut", (), (("not",),), (C1,)))
        self.excluded(query, streams, {"a": "b"}, ("cut", (), ("b", ("not", "b")), (C1, C1)))
        for value in (
            ("cut", ("b",), outside, (C0, C1)), ("cut", ("b", ("in",)), outside, (C0, C1, EMPTY)), ("cut", ("b", ("in", "b", "b")), outside, (C0, C1, C1)),
            ("cut", inside, (("not", "b"), ("in",)), (C0, EMPTY, C1, EMPTY)), ("cut", inside, (("not", "b"), "c"), (C0, C0, C1, C1)), ("cut", ("a", "b"), outside, (C0, C0, C1)),
            ("cut", ("b", "a"), (("not", "a", "b"),), (C0, C1, C0)), ("cut", inside, ("c", ("not", "b", "c")), (C0, C0, C1, C1)), ("cut", (("in", "a", "b"),), outside, (C0, ("closed", (0, 1)))),
        ):
            with self.subTest(value=value):
                self.excluded(query, streams, limits, value)
        for value in (
            ("cut", inside, outside, (C1, C0)), ("cut", inside, outside, (C0,)), ("cut", inside, outside, (C0, C1, C1)), ("cut", inside, outside, [C0, C1]), ("cut", list(inside), outside, (C0, C1)),
            ("cut", inside, list(outside), (C0, C1)), ["cut", inside, outside, (C0, C1)], ("cut", inside, (("not", "b", "d"),), (C0, C1)), ("cut", (), outside, (C0,)),
            ("cut", ("b", "c"), (("not", "b", "c"),), (C0, C1, C1)), ("cut", outside, inside, (C0, C1)), ("cut", (("not", "c"),), ("c",), (C0, C1)), ("cut", ("in",), outside, (C0, C1)),
            ("cut", (), (("not",),), (C0,)), ("cut", (3,), outside, (C0, C1)), ("cut", (("b",),), outside, (C0, C1)), ("cut", (["in", "b"],), outside, (C0, C1)), ("cut", inside, outside),
            ("cut", inside, outside, (C0, C1), ()), ("cut", inside, outside, C0), ("cut", inside, outside, (C0, ("closed", (2,)))), ("cut", (True,), outside, (C0, C1)), C0,
        ):
            with self.subTest(value=value):
                self.excluded(query, streams, limits, value, False)
        for other in ({"a": "a", "b": "b"}, {"a": "a"}, {"b": "c"}, {"a": "c", "b": "d"}):
            self.excluded(query, streams, other, good, False)
        self.excluded(query, streams, {"a": "b", "b": "c"}, good, False)
        self.excluded(query, streams, {"a": ("in", "a", "b"), "b": ("not", "b")}, ("cut", inside, outside, (("closed", (0, 1)), C1)))

    def test_closures_of_numbers(self):
        query = D.closure()
        streams = streams_of(query, {"d": [(0, 2), (2, 4)]}, {"d": [{"n": (None, 4)}, {"n": (4, None)}]})
        for limits, value, expected in (
            ({"n": 0, "m": 3}, ("cut", (2, 4), ((None, 1), 3, (5, None)), (C0,) * 9), True),
            ({"n": 0, "m": 3}, ("cut", (2, (4, 4)), ((0, 1), (3, 3), (5, None)), (C0,) * 6 + (C1,) * 3), True),
            ({"n": 0, "m": 3}, ("cut", (2, (4, 9)), ((None, 1), 3, (10, None)), (C0,) * 6 + (C1,) * 3), True),
            ({"n": 0, "m": 3}, ("cut", (4, 2), ((None, 1), 3, (5, None)), (C0,) * 9), True),
            ({"n": 0, "m": 3}, ("cut", (2, 4), ((None, 1), 3, (6, None)), (C0,) * 9), False),
            ({"n": 0, "m": 3}, ("cut", (2,), ((None, 1), (3, None)), (C0,) * 4), False),
            ({"n": 0, "m": 4}, ("cut", (2, 4), ((None, 1), 3, (5, None)), (C0,) * 9), False),
            ({"n": 0, "m": (5, 3)}, ("cut", ((0, None),), (), ()), True),
            ({"n": (1, 0), "m": 2}, ("cut", (), ((None, None),), (EMPTY,)), True),
            ({"n": (1, 0), "m": 2}, ("cut", (), ((None, None),), (C0,)), True),
            ({"n": 1, "m": 2}, ("cut", (), ((None, None),), (C0,)), True),
            ({"n": True, "m": 2}, None, None),
            ({"n": 1, "m": 2}, ("cut", (), ((None, True), (1, None)), (C0, C0)), False),
        ):
            with self.subTest(limits=limits, value=value):
                if expected is None:
                    with self.assertRaises(InvalidBox):
                        is_exclusion(query, streams, limits, value)
                else:
                    self.excluded(query, streams, limits, value, expected)

    def test_closures_inside_closures(self):
        query = P - (Q - R.closure()).closure()
        streams = streams_of(
            query, {"p": [AB, ("a", "c")], "q": [AB, ("b", "c")], "r": [("b", "x"), ("x", "c")]},
            {"q": [{"a": "a", "b": ("not", "b")}, {"a": "b"}]},
        )
        chain = ("chain", (("b", "x"), ("x", "c")), (ROW, ROW))
        split = ("split", (({"b": "c"}, ("sure", chain)), ({"b": ("not", "c")}, ("first", C1))))
        paper = ("minus", ROW, ("cut", ("b",), (("not", "b"),), (("first", C0), split)))
        self.certified(query, streams, ("a", "c"), paper)
        self.certified(query, streams, AB, paper, False)
        self.certified(query, streams, ("a", "c"), ("minus", ROW, ("cut", ("b",), (("not", "b"),), (split, ("first", C0)))), False)

    def test_values_of_every_other_kind(self):
        limits = {"a": "z", "b": "z"}
        for query in (P, P.where("a", "!=", "x"), P["a", "b"], P.renamed("a", "a"), P & Q, P | Q, P - R, P.closure()):
            streams = streams_of(query, {"p": [AB]}, {"p": [{}], "q": [{}]})
            good = exclusion(query, streams, limits)
            self.excluded(query, streams, limits, good)
            for value in NO_PAPERS + [list(good), (good,), good + ((),), EMPTY, ("split", ())]:
                self.assertIs(is_exclusion(query, streams, limits, value), False)


class ErrorsTest(CertificatesCase):
    def setUp(self):
        self.query = P - Q
        self.streams = streams_of(self.query, {"p": [AB]}, {"q": [{}]})

    def refused(self, error, field, value, call, *arguments):
        with self.assertRaises(error) as caught:
            call(*arguments)
        self.assertIs(type(caught.exception), error)
        found = getattr(caught.exception, field)
        self.assertTrue(found is value or found == value)

    def test_invalid_rows_and_limits(self):
        for row in NO_ROWS:
            with self.subTest(row=row):
                self.refused(InvalidRow, "value", row, certificate, self.query, self.streams, row)
                self.assertIs(is_certificate(self.query, self.streams, row, ("minus", ROW, C0)), False)
        for limits in NO_LIMITS:
            with self.subTest(limits=limits):
                self.refused(InvalidBox, "value", limits, exclusion, self.query, self.streams, limits)
                self.refused(InvalidBox, "value", limits, is_exclusion, self.query, self.streams, limits, C0)
                self.refused(InvalidBox, "value", limits, is_exclusion, self.query, self.streams, limits, None)
                self.refused(InvalidBox, "value", limits, is_settled, self.query, self.streams, limits)

    def test_unknown_streams_first(self):
        p, q = self.streams["p"], self.streams["q"]
        other = Stream("p", (("b", "word"), ("a", "word")))
        for streams, name in (
            ({}, "p"), ({"q": q}, "p"), ({"p": p}, "q"), ({"p": p, "q": None}, "q"), ({"p": other, "q": q}, "p"), ({"p": other, "q": 3}, "p"), ({"p": p, "q": P}, "q"),
        ):
            for call, arguments in (
                (certificate, [AB]), (certificate, [None]), (is_certificate, [AB, None]), (is_certificate, [None, None]), (exclusion, [{}]), (exclusion, [None]),
                (is_exclusion, [{}, None]), (is_exclusion, [None, None]), (is_settled, [{}]), (is_settled, [None]),
            ):
                self.refused(UnknownStream, "stream", name, call, self.query, streams, *arguments)
        more = {"p": Stream("x", PAIR), "q": Stream("p", PAIR), "z": None, 3: 4}
        self.assertIsNone(certificate(self.query, more, AB))

    def test_by_name(self):
        self.assertEqual(certificate(row=AB, streams=self.streams, query=self.query), ("minus", ROW, C0))
        self.assertIs(is_certificate(value=("minus", ROW, C0), row=AB, streams=self.streams, query=self.query), True)
        self.assertIsNone(exclusion(limits={}, streams=self.streams, query=self.query))
        self.assertIs(is_exclusion(value=EMPTY, limits={"a": ("in",)}, streams=self.streams, query=self.query), True)
        self.assertIs(is_settled(limits={"a": "a", "b": "b"}, streams=self.streams, query=self.query), True)

    def test_one_stream_under_two_names(self):
        stream = self.streams["q"]
        both = {"p": stream, "q": stream}
        self.assertIsNone(certificate(self.query, both, AB))
        self.assertEqual(exclusion(self.query, both, {}), ("first", C0))

    def test_settled_boxes(self):
        streams = streams_of(self.query, {"p": [AB, XY]}, {"q": [{"a": "a"}], "p": [{"a": ("in", "a", "z")}]})
        for limits, expected in (
            ({"a": "a"}, True), ({"a": "z"}, True), ({"a": ("in", "a", "z")}, True), ({"a": "x"}, False), ({}, False), ({"a": ("in",)}, True), ({"a": "b"}, False),
        ):
            self.assertIs(is_settled(self.query, streams, limits), expected)
        with self.assertRaises(BrokenPromise):
            streams["p"].add(("a", "z"))


if __name__ == "__main__":
    unittest.main()
