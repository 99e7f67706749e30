"""Point 3 over the whole program: its parts tell the same of the same history."""

import unittest
from random import Random

from surestreams.audit import is_report, report
from surestreams.bounds import is_possible, possible_boxes, present, sure
from surestreams.boxes import Box, uncovered
from surestreams.certificates import certificate, exclusion, is_certificate, is_exclusion, is_settled
from surestreams.console import Console
from surestreams.engine import Engine, Recorder
from surestreams.formats import format_limits, format_row, parse_limits, parse_row
from surestreams.hub import Hub
from surestreams.language import format_query, parse_query
from surestreams.papers import is_reason, is_removal, reasons, removal
from surestreams.queries import source
from surestreams.rewriting import pushed, rewrites
from surestreams.streams import Stream
from surestreams.terminal import Terminal
from tests.plain import columns_of, drawn_events, drawn_history, drawn_limits, drawn_query, drawn_sources, world


def event_text(columns, event):
    """Returns the text of an event."""
    kind, name, value = event
    return f"{kind} {name} " + (format_row(columns[name], value) if kind == "row" else format_limits(columns[name], value))


def lines(query, rows, start=""):
    """Returns the answer of some rows of a query."""
    return "\n".join(start + format_row(query.columns, row) for row in rows) or "-"


def settled_boxes(query, streams, promised):
    """Returns boxes with all rows of settled boxes that are not in promised ones."""
    names = [name for name, _ in query.columns]
    points = [Box(query.columns, dict(zip(names, row))) for row in sure(query, streams)]
    unsettled = [piece for box in possible_boxes(query, streams) for piece in uncovered(points, box)]
    return uncovered(unsettled + promised, Box(query.columns, {}))


class OneHistoryTest(unittest.TestCase):
    def test_engine_hub_console_terminal_and_report(self):
        for seed in range(120):
            _, query, events = drawn_history(seed, 5, 14)
            columns = columns_of(query)
            engine, recorder, console, hub, terminal = Engine(query), Recorder(), Console(query), Hub(), Terminal()
            engine.subscribe(recorder)
            told = report(query, events)
            self.assertIs(is_report(query, told), True)
            for name, each in columns.items():
                hub.declare(name, each)
                terminal.execute(f"declare {name} " + " ".join(f"{word}:{kind}" for word, kind in each))
            hub.define("view", format_query(query))
            terminal.execute(f"define view {format_query(query)}")
            for at, event in enumerate(events):
                rows = [row for _, row in engine.feed([event])]
                text = event_text(columns, event)
                with self.subTest(seed=seed, at=at):
                    self.assertEqual(hub.commit([event]).get("view", []), rows)
                    self.assertEqual(console.execute(text), lines(query, rows))
                    self.assertEqual(terminal.execute(f"commit {text}"), lines(query, rows, "view "))
                    self.assertEqual([row for row, _ in told[at][1]], rows)
                    self.assertEqual([row for row, _ in told[at][2]], engine.waiting())
            late = Recorder()
            engine.subscribe(late)
            with self.subTest(seed=seed):
                self.assertEqual((recorder.rows(), late.rows()), (engine.out(), engine.out()))
                self.assertEqual((hub.out("view"), hub.waiting("view")), (engine.out(), engine.waiting()))
                self.assertEqual((console.execute("out"), console.execute("waiting")), (lines(query, engine.out()), lines(query, engine.waiting())))
                self.assertEqual(terminal.execute("out view"), lines(query, engine.out()))
                self.assertEqual(terminal.execute("sure view"), lines(query, sorted(engine.out())))
                self.assertEqual(Engine.replayed(query, engine.events()).out(), engine.out())
                self.assertEqual(Hub.recovered(hub.journal()).out("view"), engine.out())
                self.assertEqual(int(terminal.execute("size")), len(hub.journal()))

    def test_texts_of_drawn_events_are_read_back(self):
        for seed in range(100):
            _, query, events = drawn_history(seed, 3, 14)
            columns = columns_of(query)
            for kind, name, value in events:
                if kind == "row":
                    self.assertEqual(parse_row(columns[name], format_row(columns[name], value)), value)
                else:
                    found = parse_limits(columns[name], format_limits(columns[name], value))
                    self.assertEqual(Box(columns[name], found), Box(columns[name], value))

    def test_all_questions_agree(self):
        for seed in range(80):
            chance, query, events = drawn_history(seed, 5, 12)
            engine = Engine(query)
            for event in events:
                list(engine.feed([event]))
                streams = {name: engine.stream_of(name) for name in query.streams()}
                certain, there = sure(query, streams), present(query, streams)
                with self.subTest(seed=seed):
                    self.assertEqual((sorted(engine.out()), engine.waiting()), (certain, sorted(set(there) - set(certain))))
                    for row in chance.sample(world(query.columns), 4) + there[:4]:
                        limits = dict(zip([name for name, _ in query.columns], row))
                        paper, shut = certificate(query, streams, row), exclusion(query, streams, limits)
                        why, against = reasons(engine, row), removal(engine, row)
                        self.assertEqual([paper is not None, why is not None], [row in certain] * 2)
                        self.assertEqual(against is not None, row in there and row not in certain)
                        self.assertEqual(shut is None, is_possible(query, streams, row))
                        self.assertIs(is_settled(query, streams, limits), shut is not None or row in certain)
                        self.assertTrue(paper is None or is_certificate(query, streams, row, paper) and is_reason(engine, row, why))
                        self.assertTrue(against is None or is_removal(engine, row, against))
                        self.assertTrue(shut is None or is_exclusion(query, streams, limits, shut))

    def test_rewritten_queries_as_views(self):
        for seed in range(60):
            _, query, events = drawn_history(seed, 5, 12)
            hub = Hub()
            for name, columns in columns_of(query).items():
                hub.declare(name, columns)
            others = [result for _, _, result in rewrites(query)][:3] + [pushed(query)]
            names = ["view"] + [f"view{letter}" for letter in "abcd"[:len(others)]]
            for name, each in zip(names, [query] + others):
                hub.define(name, format_query(each))
            for event in events:
                rows = hub.commit([event])
                with self.subTest(seed=seed):
                    self.assertEqual([rows.get(name) for name in names], [rows.get("view")] * len(names))


class PassedOnTest(unittest.TestCase):
    def passed_on(self, inner, outer, events, seed):
        """Passes the result of inner on to an engine of outer, where it is called mid."""
        known = {name: source(name, columns) for name, columns in columns_of(outer).items()}
        whole = Engine(parse_query(format_query(outer), {**known, "mid": inner}))
        first, second = Engine(inner), Engine(outer)
        promised = []
        for at, event in enumerate([None] + events):
            given = []
            if event is not None:
                list(whole.feed([event]))
                if event[1] in inner.streams():
                    given = [row for _, row in first.feed([event])]
                if event[1] in outer.streams():
                    list(second.feed([event]))
            streams = {name: first.stream_of(name) for name in inner.streams()}
            for row in given:
                second.row("mid", row)
            for box in settled_boxes(inner, streams, promised):
                self.assertIs(is_settled(inner, streams, box.limits()), True)
                second.promise("mid", box.limits())
                promised.append(box)
            # Without an event, nothing is out of the whole query yet.
            with self.subTest(seed=seed, at=at):
                self.assertEqual(sorted(second.out()), sorted(whole.out()) if event is not None else [])

    def test_drawn_queries(self):
        done = 0
        for seed in range(150):
            chance = Random(seed)
            sources = drawn_sources(chance)
            inner = drawn_query(chance, sources[:3], 3)
            outer = drawn_query(chance, [source("mid", inner.columns)] * 2 + sources[3:], 3)
            if "mid" not in outer.streams():
                continue
            done += 1
            known = {name: source(name, columns) for name, columns in columns_of(outer).items()}
            whole = parse_query(format_query(outer), {**known, "mid": inner})
            self.passed_on(inner, outer, drawn_events(chance, whole, 12), seed)
        self.assertGreater(done, 80)

    def test_a_taken_away_result(self):
        who = (("who", "word"),)
        inner = source("come", who) - source("gone", who)
        outer = source("all", who) - source("mid", who)
        events = [
            ("row", "all", ("ann",)), ("row", "all", ("bob",)), ("row", "all", ("cid",)), ("row", "come", ("ann",)), ("promise", "come", {"who": "bob"}), ("promise", "gone", {"who": "ann"}),
            ("row", "come", ("cid",)), ("row", "gone", ("cid",)), ("promise", "come", {}),
        ]
        self.passed_on(inner, outer, events, None)

    def test_two_steps(self):
        pair = (("a", "word"), ("b", "word"))
        inner = (source("way", pair) - source("cut", pair)).closure()
        outer = source("goal", pair) - source("mid", pair).renamed("b", "x").renamed("x", "b")
        events = [
            ("row", "way", ("a", "b")), ("row", "goal", ("a", "c")), ("promise", "way", {"a": ("not", "a", "b")}), ("row", "goal", ("c", "a")), ("row", "way", ("b", "c")),
            ("promise", "way", {}), ("row", "cut", ("b", "c")), ("row", "goal", ("b", "c")), ("promise", "cut", {"a": "a"}), ("promise", "cut", {}),
        ]
        self.passed_on(inner, outer, events, None)


class NoRowIsTakenBackTest(unittest.TestCase):
    def test_papers_of_each_moment_hold_at_the_end(self):
        for seed in range(80):
            chance, query, events = drawn_history(seed, 5, 14)
            engine, papers, shut = Engine(query), [], []
            for event in events:
                rows = [row for _, row in engine.feed([event])]
                streams = {name: engine.stream_of(name) for name in query.streams()}
                papers += [(row, certificate(query, streams, row)) for row in rows]
                limits = drawn_limits(chance, query.columns)
                shut.append((limits, exclusion(query, streams, limits)))
            for name in query.streams():
                engine.promise(name, {})
            streams = {name: engine.stream_of(name) for name in query.streams()}
            with self.subTest(seed=seed):
                self.assertTrue(all(is_certificate(query, streams, row, paper) for row, paper in papers))
                self.assertTrue(all(is_exclusion(query, streams, limits, paper) for limits, paper in shut if paper is not None))
                self.assertEqual(sorted(engine.out()), present(query, streams))
                self.assertIs(is_settled(query, streams, {}), True)
                self.assertIsInstance(engine.stream_of(query.streams()[0]), Stream)


if __name__ == "__main__":
    unittest.main()
