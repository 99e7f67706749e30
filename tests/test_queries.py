"""Points 2, 7 and 8: how queries are made, what they tell of themselves, and their errors."""

import unittest
from random import Random

from surestreams.errors import InvalidColumns, InvalidQuery, MixedUse, UnknownStream
from surestreams.queries import Query, source
from tests.plain import COMPARED, drawn_query, drawn_sources

WHO = (("who", "word"),)
ORDER = (("who", "word"), ("day", "number"))
PAIR = (("a", "word"), ("b", "word"))
DAYS = (("from", "number"), ("to", "number"))
SIX = tuple((name, "word") for name in "abcdef")
ORDERS = source("orders", ORDER)
VALUES = [None, True, 0, -1, 1.5, "", "Who", "whom", (), ("who",), ["who"], {}, {"who"}, b"who", object(), Query, ORDER]


def one_of_each():
    """Returns a query of each way to make one."""
    one, other = source("p", PAIR), source("q", PAIR)
    return [
        one, one.where("a", "=", "x"), one["b"], one.renamed("a", "c"), one & other, one | other, one - other, one.closure(),
    ]


def made_again(query):
    """Returns the query that is made from the parts of a query, and from theirs."""
    kind, *rest = query.parts()
    if kind == "source":
        return source(rest[0], query.columns)
    rest = [made_again(part) if isinstance(part, Query) else part for part in rest]
    if kind == "where":
        return rest[0].where(*rest[1:])
    if kind == "columns":
        return rest[0][rest[1]]
    if kind == "renamed":
        return rest[0].renamed(*rest[1:])
    if kind == "closure":
        return rest[0].closure()
    one, other = rest
    return one & other if kind == "join" else one | other if kind == "union" else one - other


def sides(query, taking=False):
    """Returns the set of pairs of a name and a side, by going through a query."""
    kind, *rest = query.parts()
    if kind == "source":
        return {(rest[0], "take" if taking else "add")}
    found = sides(rest[0], taking)
    if kind in ("join", "union", "minus"):
        found |= sides(rest[1], not taking if kind == "minus" else taking)
    return found


class QueryCase(unittest.TestCase):
    def refused(self, value, call, *arguments):
        with self.assertRaises(InvalidQuery) as caught:
            call(*arguments)
        self.assertIs(caught.exception.value, value)

    def mixed(self, name, call):
        with self.assertRaises(MixedUse) as caught:
            call()
        self.assertEqual(caught.exception.stream, name)


class ColumnsTest(QueryCase):
    def test_columns_of_each_way(self):
        self.assertEqual(
            [query.columns for query in one_of_each()],
            [PAIR, PAIR, (("b", "word"),), (("c", "word"), ("b", "word")), PAIR, PAIR, PAIR, PAIR],
        )

    def test_columns_by_names(self):
        self.assertEqual(ORDERS["who"].columns, WHO)
        self.assertEqual(ORDERS[("day",)].columns, (("day", "number"),))
        self.assertEqual(ORDERS["day", "who"].columns, ORDER[::-1])
        self.assertEqual(source("s", SIX)["f", "a", "c"].columns, (("f", "word"), ("a", "word"), ("c", "word")))

    def test_renamed_columns(self):
        self.assertEqual(ORDERS.renamed("day", "time").columns, (("who", "word"), ("time", "number")))
        self.assertEqual(ORDERS.renamed("who", "who").columns, ORDER)
        self.assertEqual(ORDERS.renamed("who", "x").renamed("day", "who").columns, (("x", "word"), ("who", "number")))

    def test_columns_of_joins(self):
        days = source("days", (("day", "number"), ("name", "word")))
        self.assertEqual((ORDERS & days).columns, ORDER + (("name", "word"),))
        self.assertEqual((days & ORDERS).columns, days.columns + (("who", "word"),))
        self.assertEqual((ORDERS & source("bans", WHO)).columns, ORDER)
        self.assertEqual((source("bans", WHO) & ORDERS).columns, ORDER)
        self.assertEqual((source("x", SIX[:3]) & source("y", SIX[3:])).columns, SIX)
        self.assertEqual((source("x", SIX[:4]) & source("y", SIX[5:1:-1])).columns, SIX[:4] + SIX[:3:-1])

    def test_columns_are_not_assigned(self):
        for query in one_of_each():
            with self.assertRaises(AttributeError):
                query.columns = PAIR

    def test_by_name(self):
        query = source(columns=ORDER, name="orders")
        self.assertEqual(query, ORDERS)
        self.assertEqual(query.where(value=3, sign="<", column="day"), ORDERS.where("day", "<", 3))
        self.assertEqual(query.renamed(new="x", old="day"), ORDERS.renamed("day", "x"))
        self.assertEqual(query.side(name="orders"), "add")


class PartsTest(QueryCase):
    def test_parts_of_each_way(self):
        one, other = source("p", PAIR), source("q", PAIR)
        self.assertEqual([query.parts() for query in one_of_each()], [
            ("source", "p"), ("where", one, "a", "=", "x"), ("columns", one, ("b",)), ("renamed", one, "a", "c"),
            ("join", one, other), ("union", one, other), ("minus", one, other), ("closure", one),
        ])
        self.assertTrue(all(type(query.parts()) is tuple for query in one_of_each()))

    def test_names_are_a_tuple(self):
        self.assertEqual(ORDERS["day"].parts(), ("columns", ORDERS, ("day",)))
        self.assertEqual(ORDERS["day", "who"].parts(), ("columns", ORDERS, ("day", "who")))

    def test_queries_are_made_again_from_their_parts(self):
        for seed in range(200):
            chance = Random(seed)
            query = drawn_query(chance, drawn_sources(chance), 5)
            with self.subTest(seed=seed):
                self.assertEqual(made_again(query), query)
                self.assertEqual(made_again(query).columns, query.columns)

    def test_equal_only_if_made_in_the_same_way(self):
        queries = one_of_each() + [
            ORDERS, ORDERS["who"], ORDERS["who", "day"], ORDERS["day", "who"], ORDERS.where("day", "=", 3),
            ORDERS.where("day", "<=", 3), ORDERS.where("day", "=", 4), ORDERS.where("day", "=", 3).where("day", "=", 3),
            ORDERS.renamed("who", "who"), ORDERS.renamed("who", "x"),
            source("orders", PAIR), source("orders", ORDER[::-1]), source("p", DAYS), source("p", DAYS).closure(),
            source("q", PAIR) & source("p", PAIR), source("q", PAIR) | source("p", PAIR), source("q", PAIR) - source("p", PAIR),
            source("p", PAIR).closure().closure(), source("p", PAIR).renamed("b", "c"), source("p", PAIR)["a"],
            source("p", PAIR).where("b", "=", "x"), source("p", PAIR).where("a", "!=", "x"), source("p", PAIR).where("a", "=", "y"),
        ]
        for at, one in enumerate(queries):
            for to, other in enumerate(queries):
                with self.subTest(one=one.parts(), other=other.parts()):
                    self.assertIs(one == other, at == to)
                    self.assertIs(one != other, at != to)
        for query in queries:
            self.assertIs(query == made_again(query), True)

    def test_other_values_are_unequal(self):
        for query in one_of_each():
            for value in VALUES + [query.parts(), query.columns]:
                self.assertIs(query == value, False)
                self.assertIs(value == query, False)

    def test_operands_do_not_change(self):
        one, other = source("p", PAIR), source("q", PAIR)
        before = [(query.parts(), query.columns, query.streams()) for query in (one, other)]
        made = one_of_each() + [one & other, one | other, one - other]
        self.assertEqual([(query.parts(), query.columns, query.streams()) for query in (one, other)], before)
        self.assertEqual(len(made), 11)
        self.assertEqual([one.side("p"), other.side("q")], ["add", "add"])

    def test_returned_lists_are_new(self):
        query = source("p", PAIR) - source("q", PAIR)
        query.streams().append("x")
        self.assertEqual(query.streams(), ["p", "q"])
        self.assertIsNot(query.streams(), query.streams())

    def test_queries_are_not_gone_over(self):
        with self.assertRaises(TypeError):
            list(ORDERS)


class SidesTest(QueryCase):
    def test_streams_in_ascending_order(self):
        p, q, r, s = [source(name, PAIR) for name in ("b", "aa", "c", "ab")]
        self.assertEqual(((p | q) & (r - s)).streams(), ["aa", "ab", "b", "c"])
        self.assertEqual((p | p).streams(), ["b"])
        self.assertEqual(p.where("a", "=", "x")["b"].renamed("b", "c").streams(), ["b"])

    def test_sides_under_several_minus(self):
        p, q, r, s = [source(name, PAIR) for name in "pqrs"]
        cases = [
            (p - q, "at"), (p - (q - r), "ata"), (p - (q - (r - s)), "atat"), ((p - q) - r, "att"), ((p - q) - (r - s), "atta"),
            (p - (q - r) - s, "atat"), ((p - q).closure() & (r - s)["b", "a"]["a", "b"], "atat"), ((p | q) - (r | s), "aatt"),
        ]
        for query, found in cases:
            with self.subTest(query=query.parts()):
                for name, letter in zip("pqrs", found):
                    self.assertEqual(query.side(name), {"a": "add", "t": "take"}[letter])

    def test_a_stream_on_the_same_side_at_several_places(self):
        p, q = source("p", PAIR), source("q", PAIR)
        query = (p - q) | (p - (q | q))
        self.assertEqual([query.side("p"), query.side("q")], ["add", "take"])
        self.assertEqual((p - (q - p)).side("p"), "add")

    def test_drawn_queries(self):
        for seed in range(200):
            chance = Random(seed)
            query = drawn_query(chance, drawn_sources(chance), 6)
            with self.subTest(seed=seed):
                self.assertEqual({(name, query.side(name)) for name in query.streams()}, sides(query))

    def test_unknown_streams(self):
        query = source("p", PAIR) - source("q", PAIR)
        for value in VALUES + ["r", "P", "pq", query]:
            with self.assertRaises(UnknownStream) as caught:
                query.side(value)
            self.assertIs(caught.exception.stream, value)


class ErrorsTest(QueryCase):
    def test_source(self):
        for name in (None, 3, "", "Log", "a b", ("p",), [], b"p"):
            for columns in (PAIR, None, ()):
                with self.assertRaises(UnknownStream) as caught:
                    source(name, columns)
                self.assertIs(caught.exception.stream, name)
        for columns in (None, (), [("a", "word")], (("a", "text"),), PAIR + PAIR, SIX + (("g", "word"),)):
            with self.assertRaises(InvalidColumns) as caught:
                source("p", columns)
            self.assertIs(caught.exception.value, columns)

    def test_where_refuses_columns_first(self):
        for column in [value for value in VALUES if value != "who"]:
            with self.subTest(column=column):
                self.refused(column, ORDERS.where, column, "?", None)
                self.refused(column, ORDERS.where, column, "=", "ann")

    def test_where_refuses_signs_next(self):
        for sign in (None, True, "", "==", "<>", "=<", "=>", "in", "! =", ("=",), ["<"], 0):
            for column, value in (("day", 3), ("who", "ann"), ("day", "ann"), ("who", None)):
                self.refused(sign, ORDERS.where, column, sign, value)
        for sign in ("<", "<=", ">", ">="):
            self.refused(sign, ORDERS.where, "who", sign, "ann")
            self.refused(sign, ORDERS.where, "who", sign, 3)

    def test_where_refuses_values_last(self):
        for value in (None, True, False, -1, "ann", 1.5, (3,), [3], "3", ""):
            for sign in COMPARED:
                self.refused(value, ORDERS.where, "day", sign, value)
        for value in (None, True, 3, "", "Ann", "a b", ("ann",), ["ann"]):
            for sign in ("=", "!="):
                self.refused(value, ORDERS.where, "who", sign, value)

    def test_names(self):
        for names in VALUES:
            if names != ("who",):
                with self.subTest(names=names):
                    self.refused(names, lambda: ORDERS[names])
        for names in (("who", "who"), ("who", "whom"), ("who", 3), ("who", None), ("who", ["day"]), ("who", ("day",)), slice(1)):
            self.refused(names, lambda: ORDERS[names])

    def test_renamed(self):
        for old in [value for value in VALUES if value != "who"]:
            self.refused(old, ORDERS.renamed, old, "x")
            self.refused(old, ORDERS.renamed, old, None)
        for new in (None, True, 3, "", "Who", "a b", ("x",), ["x"], "day"):
            self.refused(new, ORDERS.renamed, "who", new)

    def test_closure(self):
        mixed = source("m", ORDER)
        for query in (mixed, mixed["who"], source("s", SIX[:3]), mixed.renamed("who", "x")):
            self.refused(query, query.closure)
        self.assertEqual(source("d", DAYS).closure().columns, DAYS)

    def test_operators_refuse_other_values(self):
        for value in VALUES + [ORDERS.parts()]:
            self.refused(value, lambda: ORDERS & value)
            self.refused(value, lambda: ORDERS | value)
            self.refused(value, lambda: ORDERS - value)

    def test_other_columns(self):
        others = [
            source("x", ORDER[::-1]), source("x", WHO), source("x", PAIR), ORDERS.renamed("day", "time"), ORDERS["day", "who"],
            source("x", ORDER + (("z", "word"),)), source("x", (("who", "number"), ("day", "number"))),
        ]
        for other in others:
            self.refused(other, lambda: ORDERS | other)
            self.refused(other, lambda: ORDERS - other)

    def test_joins_of_other_kinds_or_of_too_many_columns(self):
        others = [source("x", (("day", "word"),)), source("x", (("z", "word"), ("who", "number")))]
        for other in others:
            self.refused(other, lambda: ORDERS & other)
        six = source("s", SIX)
        seventh = source("t", (("g", "word"),))
        self.refused(seventh, lambda: six & seventh)
        self.refused(six, lambda: seventh & six)
        self.refused(six, lambda: ORDERS & six)
        self.assertEqual((six & six).columns, SIX)

    def test_a_stream_with_different_columns(self):
        for other in (source("orders", PAIR), source("orders", ORDER[::-1])["who"], source("z", PAIR) & source("orders", PAIR)):
            self.refused(other, lambda: ORDERS & other)
        same = source("orders", PAIR).renamed("a", "who")["who"]
        self.refused(same, lambda: ORDERS["who"] | same)
        self.refused(same, lambda: ORDERS["who"] - same)

    def test_mixed_use(self):
        a, b, c = [source(name, PAIR) for name in "abc"]
        self.mixed("a", lambda: a - a)
        self.mixed("a", lambda: (a | b) - (a | b))
        self.mixed("b", lambda: (b | c) - (c | a | b))
        self.mixed("a", lambda: (b - a) & a)
        self.mixed("a", lambda: a | (b - a))
        self.mixed("a", lambda: (c - a) - (b - a))
        self.mixed("b", lambda: (a - b) | (b - c))
        self.mixed("a", lambda: (c - a).where("a", "=", "x").closure() | (b | a)["a", "b"])

    def test_mixed_use_comes_last(self):
        a, b = source("a", PAIR), source("b", PAIR)
        for other in (a["b", "a"], a["a"], source("a", DAYS)):
            self.refused(other, lambda: a - other)
        both = source("a", PAIR) & source("b", DAYS)
        self.refused(both, lambda: (a - b)["a"] & both)
        wide = source("b", SIX[2:]) & a
        self.refused(wide, lambda: (source("z", PAIR) - a)["a"].renamed("a", "g") & wide)


if __name__ == "__main__":
    unittest.main()
