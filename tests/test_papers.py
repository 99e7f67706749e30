"""Points 2, 3 (c) and 10: what could still remove a row, and why a row is sure."""

import unittest

from surestreams.bounds import sure
from surestreams.engine import Engine
from surestreams.errors import InvalidRow
from surestreams.papers import is_reason, is_removal, reasons, removal
from surestreams.queries import source
from surestreams.streams import Stream
from tests.plain import drawn_history, evaluated, later, now, open_pairs, world

PAIR = (("a", "word"), ("b", "word"))
DAY = (("day", "number"),)
P, Q, R, S = [source(name, PAIR) for name in "pqrs"]
NO_ROWS = [None, True, 3, "", "ab", (), ("a",), ("a", "b", "c"), ("a", 3), ("a", True), ["a", "b"], ("A", "b"), {}, ([], "a"), P]
NO_LISTS = [None, True, 3, "", "p", (), (("q", ("a", "b")),), {}, {"q": ("a", "b")}, set(), object(), P, Engine]


def fed(query, *events):
    """Returns an engine that has performed events: a name with a row or with limits each."""
    engine = Engine(query)
    for name, value in events:
        if isinstance(value, dict):
            engine.promise(name, value)
        else:
            engine.row(name, value)
    return engine


def streams_of(engine):
    """Returns a dict of copies of the streams of an engine."""
    return {name: engine.stream_of(name) for name in engine.query.streams()}


def is_gone(engine, row, pairs):
    """Returns whether a row is not in the plain result after the rows of pairs have come."""
    return row not in evaluated(engine.query, later(engine.query, streams_of(engine), pairs))


def suffices(engine, row, pairs):
    """Returns whether a row is sure on streams with the same rows and some promises only."""
    streams = {}
    for name, stream in streams_of(engine).items():
        streams[name] = Stream(name, stream.columns)
        for each in stream.rows():
            streams[name].add(each)
        for index, box in enumerate(stream.promises()):
            if (name, index) in pairs:
                streams[name].promise(box.limits())
    return row in sure(engine.query, streams)


def all_promises(engine):
    """Returns the pairs (name, index) of all promises."""
    return [(name, index) for name, stream in streams_of(engine).items() for index in range(len(stream.promises()))]


def shorter(values):
    """Returns the lists with one value less."""
    return [values[:at] + values[at + 1:] for at in range(len(values))]


class PapersCase(unittest.TestCase):
    def least(self, engine, row, found, is_such, is_enough, accepts):
        """A list is in ascending order, is enough, and is not without any of its values."""
        self.assertIs(type(found), list)
        self.assertEqual(found, sorted(set(found)))
        self.assertTrue(all(type(pair) is tuple and is_such(engine, pair) for pair in found))
        self.assertTrue(is_enough(engine, row, found))
        self.assertIs(accepts(engine, row, found), True)
        for part in shorter(found):
            self.assertFalse(is_enough(engine, row, part))
            self.assertIs(accepts(engine, row, part), False)

    def removes(self, engine, row):
        """removal of a row is least; returns it."""
        found = removal(engine, row)
        self.least(engine, row, found, lambda one, pair: one.stream_of(pair[0]).is_open(pair[1]), is_gone, is_removal)
        self.assertIsNone(reasons(engine, row))
        return found

    def proves(self, engine, row):
        """reasons of a row are least; returns them."""
        found = reasons(engine, row)
        self.least(engine, row, found, lambda one, pair: pair in all_promises(one), suffices, is_reason)
        self.assertIsNone(removal(engine, row))
        return found


class DrawnTest(PapersCase):
    def test_each_row_has_its_paper(self):
        for seed in range(200):
            chance, query, events = drawn_history(seed, 6, 18)
            engine = Engine(query)
            list(engine.feed(events))
            present = evaluated(query, now(query, streams_of(engine)))
            with self.subTest(seed=seed):
                for row in engine.waiting():
                    self.removes(engine, row)
                for row in engine.out():
                    self.proves(engine, row)
                for row in chance.sample(world(query.columns), 3):
                    if row not in present:
                        self.assertIsNone(removal(engine, row))
                        self.assertIsNone(reasons(engine, row))

    def test_all_lists_that_remove_and_no_others(self):
        for seed in range(150):
            chance, query, events = drawn_history(seed, 5, 14)
            engine = Engine(query)
            list(engine.feed(events))
            pairs = open_pairs(query, streams_of(engine))
            rows = engine.waiting()[:4] + engine.out()[:2] + chance.sample(world(query.columns), 1)
            for row in rows:
                there = row in evaluated(query, now(query, streams_of(engine)))
                for _ in range(4):
                    value = chance.sample(pairs, min(len(pairs), chance.randrange(7)))
                    with self.subTest(seed=seed, row=row, value=value):
                        self.assertIs(is_removal(engine, row, value), there and is_gone(engine, row, value))

    def test_all_lists_that_suffice_and_no_others(self):
        for seed in range(150):
            chance, query, events = drawn_history(seed, 5, 14)
            engine = Engine(query)
            list(engine.feed(events))
            pairs = all_promises(engine)
            for row in engine.out()[:3] + engine.waiting()[:1] + chance.sample(world(query.columns), 1):
                for _ in range(4):
                    value = chance.sample(pairs, chance.randrange(len(pairs) + 1))
                    with self.subTest(seed=seed, row=row, value=value):
                        self.assertIs(is_reason(engine, row, value), suffices(engine, row, value))

    def test_papers_change_nothing(self):
        for seed in range(40):
            _, query, events = drawn_history(seed, 5, 14)
            engine, other = Engine(query), Engine(query)
            for event in events:
                self.assertEqual(list(engine.feed([event])), list(other.feed([event])))
                for row in engine.waiting() + engine.out():
                    self.assertEqual(removal(engine, row), removal(engine, row))
                    found = reasons(engine, row)
                    self.assertEqual(found, reasons(engine, row))
                    if found is not None:
                        self.assertIsNot(found, reasons(engine, row))
                        found.append("x")
            self.assertEqual((engine.out(), engine.waiting(), engine.events()), (other.out(), other.waiting(), other.events()))


class RemovalTest(PapersCase):
    def test_a_row_that_is_taken_away(self):
        engine = fed(P - Q, ("p", ("x", "y")))
        self.assertEqual(self.removes(engine, ("x", "y")), [("q", ("x", "y"))])

    def test_sure_and_missing_rows_have_none(self):
        engine = fed(P - Q, ("p", ("x", "y")), ("q", {"a": "x"}))
        for row in (("x", "y"), ("x", "z"), ("z", "z")):
            self.assertIsNone(removal(engine, row))
            self.assertIs(is_removal(engine, row, []), False)

    def test_reduced_columns(self):
        rows = [("p", ("x", word)) for word in ("a", "b", "c")]
        engine = fed((P - Q)["a"], *rows, ("q", {"a": "y"}))
        self.assertEqual(self.removes(engine, ("x",)), [("q", ("x", word)) for word in ("a", "b", "c")])
        engine = fed(P["a"] - Q["a"], *rows)
        found = self.removes(engine, ("x",))
        self.assertEqual([(len(found), found[0][0], found[0][1][0])], [(1, "q", "x")])

    def test_joins(self):
        engine = fed((P - Q) & (R - S), ("p", ("x", "y")), ("r", ("x", "y")), ("q", {}))
        self.assertEqual(self.removes(engine, ("x", "y")), [("s", ("x", "y"))])
        engine = fed(P - (Q & R["b"]), ("p", ("x", "y")))
        found = self.removes(engine, ("x", "y"))
        self.assertEqual(found[0], ("q", ("x", "y")))
        self.assertEqual([(name, row[1]) for name, row in found[1:]], [("r", "y")])

    def test_unions(self):
        engine = fed((P - Q) | (R - S), ("p", ("x", "y")), ("r", ("x", "y")))
        self.assertEqual(self.removes(engine, ("x", "y")), [("q", ("x", "y")), ("s", ("x", "y"))])
        for closed, left in ("qr", "rq"):
            engine = fed(P - (Q | R), ("p", ("x", "y")), (closed, {}))
            self.assertEqual(self.removes(engine, ("x", "y")), [(left, ("x", "y"))])

    def test_under_several_minus(self):
        engine = fed(P - (Q - (R - S)), ("p", ("x", "y")), ("q", ("x", "y")), ("r", ("x", "y")))
        self.assertEqual(self.removes(engine, ("x", "y")), [("s", ("x", "y"))])
        engine = fed(P - (Q - (R - S)), ("p", ("x", "y")), ("r", ("x", "y")))
        self.assertEqual(self.removes(engine, ("x", "y")), [("q", ("x", "y")), ("s", ("x", "y"))])
        engine = fed(P - (Q - (R - S)), ("p", ("x", "y")))
        self.assertEqual(self.removes(engine, ("x", "y")), [("q", ("x", "y"))])

    def test_closures(self):
        rows = [("p", row) for row in (("a", "b"), ("b", "d"), ("a", "c"), ("c", "d"))]
        engine = fed((P - Q).closure(), *rows, ("q", {"a": "b"}))
        self.assertEqual(len(self.removes(engine, ("a", "d"))), 2)
        self.assertEqual(self.removes(engine, ("a", "b")), [("q", ("a", "b"))])
        engine = fed(P - Q.closure(), ("p", ("a", "c")), ("q", {"a": "a", "b": ("not", "x", "y")}), ("q", {"b": "c", "a": ("not", "z")}))
        found = self.removes(engine, ("a", "c"))
        self.assertEqual((len(found), found[-1]), (3, ("q", ("z", "c"))))

    def test_a_ring(self):
        ring = [("p", row) for row in (("a", "b"), ("b", "c"), ("c", "a"))]
        engine = fed((P - Q).closure(), *ring, ("q", {"a": "b"}))
        self.assertEqual(self.proves(engine, ("b", "c")), [("q", 0)])
        for row in (("a", "a"), ("b", "b"), ("c", "c"), ("a", "c"), ("b", "a")):
            self.assertIn(self.removes(engine, row), ([("q", ("a", "b"))], [("q", ("c", "a"))]))

    def test_lists_that_are_no_removal(self):
        engine = fed(P - (Q & R), ("p", ("x", "y")), ("p", ("z", "z")), ("q", ("v", "w")), ("q", {"a": "closed"}))
        good = [("q", ("x", "y")), ("r", ("x", "y"))]
        row = ("x", "y")
        more = ("q", ("more", "y"))
        for value in (good, good[::-1], good + [more], [more] + good, good + [("p", ("k", "k"))]):
            self.assertIs(is_removal(engine, row, value), True)
        for value in (
            [], good[:1], good[1:], [more], good + good[:1], good * 2, good + [more, more], good + [("q", ("v", "w"))],
            good + [("q", ("closed", "x"))], good + [("p", ("x", "y"))], good + [("s", ("x", "y"))], good + [("Q", ("x", "y"))],
            tuple(good), dict(good), good + [None], good + ["q"], good + [()], good + [("q",)], good + [["r", ("x", "z")]],
            good + [("r", ["x", "z"])], good + [("r", ("x", "z"), 0)], good + [("r", ("x",))], good + [("r", ("x", 3))],
            good + [(None, ("x", "z"))], good + [(["r"], ("x", "z"))], good + [("r", 0)], good + [("r", {})],
        ):
            with self.subTest(value=value):
                self.assertIs(is_removal(engine, row, value), False)
        for value in NO_LISTS:
            self.assertIs(is_removal(engine, row, value), False)
        for other in NO_ROWS + [("z", "z"), ("y", "x")]:
            self.assertIs(is_removal(engine, other, good), False)
        self.assertEqual(engine.waiting(), [("x", "y"), ("z", "z")])

    def test_by_name(self):
        engine = fed(P - Q, ("p", ("x", "y")), ("p", ("z", "z")), ("q", {"a": "z"}))
        self.assertEqual(removal(row=("x", "y"), engine=engine), [("q", ("x", "y"))])
        self.assertIs(is_removal(value=[("q", ("x", "y"))], row=("x", "y"), engine=engine), True)
        self.assertEqual(reasons(row=("z", "z"), engine=engine), [("q", 0)])
        self.assertIs(is_reason(value=[("q", 0)], row=("z", "z"), engine=engine), True)


class ReasonsTest(PapersCase):
    def test_rows_that_need_no_promise(self):
        engine = fed(P | R, ("p", ("x", "y")), ("p", {}), ("r", {}))
        self.assertEqual(self.proves(engine, ("x", "y")), [])
        for value in ([], [("p", 0)], [("r", 0), ("p", 0)]):
            self.assertIs(is_reason(engine, ("x", "y"), value), True)

    def test_one_of_several_promises(self):
        engine = fed(P - Q, ("p", ("x", "y")), ("q", {"a": "z"}), ("q", {"a": "x"}), ("q", {}), ("p", {}))
        self.assertIn(self.proves(engine, ("x", "y")), ([("q", 1)], [("q", 2)]))

    def test_several_promises_together(self):
        days, gone = source("days", DAY), source("gone", DAY)
        query = days["day"] - (gone.renamed("day", "from") & gone)["day"]
        engine = fed(query, ("days", (3,)), ("gone", {"day": (None, 2)}), ("gone", {"day": (9, None)}), ("gone", {"day": 3}))
        self.assertEqual(self.proves(engine, (3,)), [("gone", 2)])
        wide = source("wide", (("day", "number"), ("to", "number")))
        engine = fed(
            days - wide["day"], ("days", (3,)), ("wide", {"to": (None, 4)}), ("wide", {"day": 3, "to": (2, 7)}),
            ("wide", {"day": 4}), ("wide", {"day": (2, 5), "to": (7, None)}),
        )
        self.assertEqual(self.proves(engine, (3,)), [("wide", 0), ("wide", 1), ("wide", 3)])

    def test_promises_of_several_streams(self):
        engine = fed(P - (Q | S), ("p", ("x", "y")), ("q", {"a": "x"}), ("s", {"b": "x"}), ("s", {"b": "y"}))
        self.assertEqual(self.proves(engine, ("x", "y")), [("q", 0), ("s", 1)])
        engine = fed(P - (Q & S), ("p", ("x", "y")), ("q", {"a": "x"}), ("s", {"b": "y"}))
        self.assertIn(self.proves(engine, ("x", "y")), ([("q", 0)], [("s", 0)]))

    def test_under_several_minus(self):
        engine = fed(P - (Q - (R - S)), ("p", ("x", "y")), ("r", ("x", "y")), ("s", {"a": "x"}))
        self.assertEqual(self.proves(engine, ("x", "y")), [("s", 0)])

    def test_closures(self):
        engine = fed(
            P - Q.closure(), ("p", ("a", "c")), ("q", {"a": ("not", "a", "b")}), ("q", {"a": "a", "b": ("not", "b")}),
            ("q", {"b": "z"}), ("q", {"a": "b", "b": ("not", "a")}),
        )
        self.assertEqual(self.proves(engine, ("a", "c")), [("q", 1), ("q", 3)])
        engine = fed((P - Q).closure(), ("p", ("a", "b")), ("p", ("b", "c")), ("q", {"a": "b"}), ("q", {"b": "b"}))
        self.assertEqual(self.proves(engine, ("a", "c")), [("q", 0), ("q", 1)])

    def test_a_row_for_which_the_promises_are_of_no_use(self):
        engine = fed(P - Q, ("p", ("x", "y")), ("q", {"a": "y"}))
        self.assertIsNone(reasons(engine, ("x", "y")))
        self.assertIs(is_reason(engine, ("x", "y"), [("q", 0)]), False)
        self.assertIsNone(reasons(engine, ("y", "y")))
        self.assertIs(is_reason(engine, ("y", "y"), [("q", 0)]), False)

    def test_lists_that_are_no_reason(self):
        engine = fed(P - (Q | R), ("p", ("x", "y")), ("q", {"a": "x"}), ("q", {"a": "z"}), ("q", {"b": "y"}), ("r", {}), ("p", {}))
        row = ("x", "y")
        for value in (
            [("q", 0), ("r", 0)], [("r", 0), ("q", 2)], [("q", 2), ("r", 0), ("q", 0)], [("p", 0), ("q", 1), ("q", 2), ("r", 0)],
        ):
            self.assertIs(is_reason(engine, row, value), True)
        good = [("q", 0), ("r", 0)]
        for value in (
            [], good[:1], good[1:], [("q", 1), ("r", 0)], good + good[:1], good * 2, good + [("q", 3)], good + [("q", -1)],
            good + [("q", True)], [("q", False), ("r", 0)], good + [("s", 0)], good + [("Q", 0)], good + [("q", "1")],
            good + [("q", 1.0)], good + [("q", None)], good + [("q", (1,))], good + [("q", [1])], good + [("q", 1, 1)], good + [("q",)],
            good + [["q", 1]], good + ["q"], good + [None], good + [(None, 1)], good + [(["q"], 1)], tuple(good), dict(good),
            good + [("r", 1)], good + [("q", 10 ** 30)],
        ):
            with self.subTest(value=value):
                self.assertIs(is_reason(engine, row, value), False)
        for value in NO_LISTS:
            self.assertIs(is_reason(engine, row, value), False)
        for other in NO_ROWS + [("y", "x")]:
            self.assertIs(is_reason(engine, other, good), False)


class ErrorsTest(PapersCase):
    def test_invalid_rows(self):
        engine = fed(P - Q, ("p", ("x", "y")))
        for call in (removal, reasons):
            for row in NO_ROWS:
                with self.subTest(row=row), self.assertRaises(InvalidRow) as caught:
                    call(engine, row)
                self.assertIs(caught.exception.value, row)
            with self.assertRaises(InvalidRow):
                call(fed((P - Q)["a"], ("p", ("x", "y"))), ("x", "y"))

    def test_arguments_do_not_change(self):
        engine = fed(P - Q, ("p", ("x", "y")))
        value = [("q", ("z", "z")), ("q", ("x", "y"))]
        self.assertIs(is_removal(engine, ("x", "y"), value), True)
        self.assertEqual(value, [("q", ("z", "z")), ("q", ("x", "y"))])


if __name__ == "__main__":
    unittest.main()
