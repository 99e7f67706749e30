"""Points 2, 3 (a), (e), (h) and 10: the engine and its recorders."""

import unittest
from copy import deepcopy

from surestreams.bounds import present, sure
from surestreams.engine import Engine, Recorder
from surestreams.errors import BrokenPromise, InvalidBox, InvalidEvent, InvalidRow, UnknownStream
from surestreams.queries import source
from surestreams.streams import Stream
from tests.plain import Rude, columns_of, drawn_history, drawn_limits, world

WHO = (("who", "word"),)
PAIR = (("a", "word"), ("b", "word"))
COME, GONE = source("come", WHO), source("gone", WHO)
LEFT = COME - GONE
ANN, BOB, CID = ("ann",), ("bob",), ("cid",)
EVENTS = [
    ("row", "come", BOB), ("row", "come", ANN), ("promise", "gone", {"who": ("in", "ann", "bob")}), ("row", "come", CID),
    ("row", "gone", CID), ("row", "come", ANN), ("promise", "gone", {}), ("row", "come", ("dan",)),
]
NO_EVENTS = [
    None, True, 3, "row", (), ("row",), ("row", "come"), ("row", "come", ANN, ANN), ["row", "come", ANN], {"row": "come"},
    ("Row", "come", ANN), ("rows", "come", ANN), (None, "come", ANN), (["row"], "come", ANN), ("promise", "come", ANN),
    ("row", "come", {}), ("row", "left", ANN), ("row", "Come", ANN), ("row", None, ANN), ("row", ["come"], ANN), ("row", 3, ANN),
    ("row", "come", "ann"), ("row", "come", ["ann"]), ("row", "come", ("Ann",)), ("row", "come", (3,)), ("row", "come", ()),
    ("row", "come", None), ("promise", "left", {}), ("promise", "gone", None), ("promise", "gone", []), ("promise", "gone", {"a": "b"}),
    ("Promise", "gone", {}), ("x", "gone", {}), (None, "gone", {}), (True, "gone", {}), (Rude(), "gone", {}), (Rude(), "gone", ANN), ("row", Rude(), ANN),
    ("row", "come", Rude()), ("promise", "gone", Rude()), ("promise", "gone", {"who": Rude()}), ("row", "come", (Rude(),)), Rude(),
    ("promise", "gone", {"who": 3}), ("promise", "gone", {"who": ("ann",)}), ("promise", "gone", {"who": True}), object(), Engine,
]
NO_NAMES = [None, 3, "", "left", "Come", ("come",), ["come"], {}, LEFT, True]


def contents(engine):
    """Returns all that tells what an engine holds."""
    streams = [engine.stream_of(name) for name in engine.query.streams()]
    return deepcopy((
        engine.out(), engine.waiting(), engine.events(),
        [(stream.name, stream.rows(), [box.limits() for box in stream.promises()]) for stream in streams],
    ))


def done(engine, event):
    """Performs an event by its own method."""
    kind, name, value = event
    return engine.row(name, value) if kind == "row" else engine.promise(name, value)


class EngineCase(unittest.TestCase):
    def refused(self, error, field, value, call, *arguments):
        with self.assertRaises(error) as caught:
            call(*arguments)
        self.assertIs(getattr(caught.exception, field), value)


class HistoriesTest(EngineCase):
    def test_exactly_the_sure_rows_are_given_out(self):
        for seed in range(250):
            _, query, events = drawn_history(seed)
            engine = Engine(query)
            streams = {name: Stream(name, columns) for name, columns in columns_of(query).items()}
            out = []
            for at, event in enumerate(events):
                kind, name, value = event
                new = streams[name].add(value) if kind == "row" else streams[name].promise(value)
                given = done(engine, event)
                self.assertIsNotNone(new)
                with self.subTest(seed=seed, at=at):
                    self.assertEqual(given, sorted(set(sure(query, streams)) - set(out)))
                    out += given
                    self.assertEqual(engine.out(), out)
                    self.assertEqual(engine.waiting(), [row for row in present(query, streams) if row not in out])
                    self.assertEqual(engine.events(), events[:at + 1])
            for name, stream in streams.items():
                self.assertEqual(engine.stream_of(name).rows(), stream.rows())
                self.assertEqual(engine.stream_of(name).promises(), stream.promises())

    def test_no_row_is_taken_back_or_given_out_twice(self):
        for seed in range(100):
            _, query, events = drawn_history(seed, 6, 30)
            engine = Engine(query)
            for event in events:
                before = engine.out()
                given = done(engine, event)
                self.assertEqual(engine.out(), before + given)
                streams = {name: engine.stream_of(name) for name in query.streams()}
                with self.subTest(seed=seed):
                    self.assertLessEqual(set(engine.out()), set(present(query, streams)))
                    self.assertEqual(len(set(engine.out())), len(engine.out()))

    def test_if_everything_is_promised_the_result_is_complete(self):
        for seed in range(60):
            _, query, events = drawn_history(seed)
            engine = Engine(query)
            for event in events + [("promise", name, {}) for name in query.streams()]:
                done(engine, event)
            streams = {name: engine.stream_of(name) for name in query.streams()}
            with self.subTest(seed=seed):
                self.assertEqual(sorted(engine.out()), present(query, streams))
                self.assertEqual(engine.waiting(), [])

    def test_one_history_step_by_step(self):
        engine = Engine(LEFT)
        self.assertEqual([done(engine, event) for event in EVENTS], [[], [], [ANN, BOB], [], [], [], [], [("dan",)]])
        self.assertEqual(engine.out(), [ANN, BOB, ("dan",)])
        self.assertEqual(engine.waiting(), [])
        self.assertEqual(engine.events(), EVENTS)

    def test_a_new_engine(self):
        engine = Engine(LEFT)
        self.assertEqual((engine.out(), engine.waiting(), engine.events()), ([], [], []))
        self.assertEqual(engine.query, LEFT)
        for name in ("come", "gone"):
            stream = engine.stream_of(name)
            self.assertIsInstance(stream, Stream)
            self.assertEqual((stream.name, stream.columns, stream.rows(), stream.promises()), (name, WHO, [], []))
        with self.assertRaises(AttributeError):
            engine.query = LEFT

    def test_rows_of_one_event_in_ascending_order(self):
        engine = Engine(LEFT)
        for word in ("b", "aa", "c", "ab", "a"):
            self.assertEqual(engine.row("come", (word,)), [])
        self.assertEqual(engine.waiting(), [("a",), ("aa",), ("ab",), ("b",), ("c",)])
        self.assertEqual(engine.promise("gone", {"who": ("not", "c")}), [("a",), ("aa",), ("ab",), ("b",)])
        self.assertEqual(engine.promise("gone", {}), [("c",)])
        self.assertEqual(engine.out(), [("a",), ("aa",), ("ab",), ("b",), ("c",)])

    def test_repeated_rows_are_events(self):
        engine = Engine(COME)
        self.assertEqual([engine.row("come", ANN), engine.promise("come", {}), engine.row("come", ANN)], [[ANN], [], []])
        self.assertEqual(engine.events(), [("row", "come", ANN), ("promise", "come", {}), ("row", "come", ANN)])
        self.assertEqual(engine.stream_of("come").rows(), [ANN])

    def test_a_closure_without_what_may_still_go(self):
        way, cut = source("way", PAIR), source("cut", PAIR)
        engine = Engine((way - cut).closure())
        done_rows = [engine.row("way", row) for row in (("a", "b"), ("b", "c"))]
        self.assertEqual((done_rows, engine.waiting()), ([[], []], [("a", "b"), ("a", "c"), ("b", "c")]))
        self.assertEqual(engine.promise("cut", {"a": "a"}), [("a", "b")])
        self.assertEqual(engine.promise("cut", {"a": "b", "b": ("not", "c")}), [])
        self.assertEqual(engine.promise("cut", {"b": "c"}), [("a", "c"), ("b", "c")])

    def test_by_name(self):
        engine = Engine(query=LEFT)
        self.assertEqual(engine.row(row=ANN, name="come"), [])
        self.assertEqual(engine.promise(limits={}, name="gone"), [ANN])
        self.assertEqual(engine.stream_of(name="come").rows(), [ANN])
        self.assertEqual(list(engine.feed(events=[("row", "come", BOB)])), [(0, BOB)])
        self.assertEqual(engine.tried(events=[("row", "come", CID)]), [CID])
        recorder = Recorder()
        self.assertIsNone(engine.subscribe(call=recorder))
        self.assertIsNone(recorder(row=CID))
        self.assertEqual(recorder.rows(), [ANN, BOB, CID])
        self.assertEqual(Engine.replayed(events=EVENTS, query=LEFT).out(), [ANN, BOB, ("dan",)])


class NewValuesTest(EngineCase):
    def test_returned_values_are_new(self):
        engine = Engine(LEFT)
        given = [done(engine, event) for event in EVENTS[:5]]
        before = contents(engine)
        for each in given:
            each.append("x")
        for call in (engine.out, engine.waiting, engine.events):
            self.assertEqual(call(), call())
            self.assertIsNot(call(), call())
            call().append("x")
            call().clear()
        engine.events()[2][2]["who"] = "x"
        engine.events()[2][2].clear()
        engine.stream_of("come").add(("eve",))
        engine.stream_of("gone").promise({})
        engine.tried([("row", "come", ("eve",))]).append("x")
        self.assertEqual(contents(engine), before)

    def test_arguments_may_change_afterwards(self):
        for way in ("promise", "feed", "replayed"):
            limits = {"who": "ann"}
            events = [("row", "come", ANN), ("promise", "gone", limits)]
            engine = Engine(LEFT)
            if way == "replayed":
                engine = Engine.replayed(LEFT, events)
            elif way == "feed":
                self.assertEqual(list(engine.feed(events)), [(1, ANN)])
            else:
                engine.row("come", ANN)
                engine.promise("gone", limits)
            self.assertEqual(events, [("row", "come", ANN), ("promise", "gone", {"who": "ann"})])
            limits["who"] = "bob"
            events.clear()
            with self.subTest(way=way):
                self.assertEqual(engine.events(), [("row", "come", ANN), ("promise", "gone", {"who": "ann"})])
                self.assertEqual(engine.stream_of("gone").promises()[0].limits(), {"who": ("in", "ann")})
                self.assertEqual(engine.copy().events(), engine.events())

    def test_limits_are_told_as_they_were_given(self):
        given = [{"who": "ann"}, {"who": ("in", "b", "a", "b")}, {"who": ("not",)}, {}, {"who": ("in",)}]
        engine = Engine(LEFT)
        for limits in given:
            engine.promise("gone", limits)
        self.assertEqual([limits for _, _, limits in engine.events()], given)

    def test_questions_change_nothing(self):
        for seed in range(20):
            _, query, events = drawn_history(seed)
            engine, other = Engine(query), Engine(query)
            for event in events:
                self.assertEqual(contents(engine), contents(engine))
                self.assertEqual(done(engine, event), done(other, event))
            self.assertEqual(contents(engine), contents(other))


class FeedTest(EngineCase):
    def test_the_same_rows_as_events_one_by_one(self):
        for seed in range(100):
            _, query, events = drawn_history(seed)
            engine, other = Engine(query), Engine(query)
            expected = [(at, row) for at, event in enumerate(events) for row in done(engine, event)]
            with self.subTest(seed=seed):
                self.assertEqual(list(other.feed(events)), expected)
                self.assertEqual(contents(other), contents(engine))

    def test_no_event_before_the_rows_of_the_earlier_ones(self):
        engine = Engine(LEFT)
        rows = iter(engine.feed(EVENTS))
        self.assertEqual(next(rows), (2, ANN))
        self.assertEqual(engine.events(), EVENTS[:3])
        self.assertEqual(next(rows), (2, BOB))
        self.assertEqual(engine.events(), EVENTS[:3])
        self.assertEqual(engine.out(), [ANN, BOB])
        self.assertEqual(next(rows), (7, ("dan",)))
        self.assertEqual(engine.events(), EVENTS)
        self.assertEqual(list(rows), [])

    def test_no_events(self):
        self.assertEqual(list(Engine(LEFT).feed([])), [])

    def test_further_events(self):
        engine = Engine(LEFT)
        self.assertEqual(list(engine.feed(EVENTS[:4])), [(2, ANN), (2, BOB)])
        self.assertEqual(list(engine.feed(EVENTS[4:])), [(3, ("dan",))])
        self.assertEqual(engine.events(), EVENTS)

    def test_invalid_events_before_the_first_one(self):
        for value in NO_EVENTS:
            for events in ([value], EVENTS[:3] + [value], EVENTS[:2] + [value] + NO_EVENTS, [value, ("row", "come", ANN)]):
                engine = Engine(LEFT)
                engine.row("come", CID)
                before = contents(engine)
                with self.subTest(value=value):
                    self.refused(InvalidEvent, "value", value, lambda: list(engine.feed(events)))
                    self.refused(InvalidEvent, "value", value, engine.tried, events)
                    self.refused(InvalidEvent, "value", value, Engine.replayed, LEFT, events)
                    self.assertEqual(contents(engine), before)

    def test_an_invalid_event_comes_before_a_broken_promise(self):
        events = [("promise", "gone", {}), ("row", "gone", ANN), None]
        self.refused(InvalidEvent, "value", None, Engine(LEFT).tried, events)

    def test_a_broken_promise_where_it_occurs(self):
        engine = Engine(LEFT)
        events = [
            ("row", "come", ANN), ("promise", "gone", {"who": "cid"}), ("promise", "gone", {"who": ("not", "bob")}),
            ("row", "come", BOB), ("row", "gone", CID), ("row", "come", CID),
        ]
        rows = iter(engine.feed(events))
        self.assertEqual(next(rows), (2, ANN))
        with self.assertRaises(BrokenPromise) as caught:
            next(rows)
        self.assertEqual(caught.exception.index, 0)
        self.assertEqual(engine.events(), events[:4])
        self.assertEqual((engine.out(), engine.waiting()), ([ANN], [BOB]))
        self.assertEqual(engine.stream_of("gone").rows(), [])


class TriedTest(EngineCase):
    def test_trials_tell_the_rows_and_change_nothing(self):
        for seed in range(80):
            chance, query, events = drawn_history(seed)
            engine = Engine(query)
            some = chance.randrange(len(events) + 1)
            list(engine.feed(events[:some]))
            before = contents(engine)
            with self.subTest(seed=seed):
                tried = engine.tried(events[some:])
                self.assertEqual(contents(engine), before)
                self.assertEqual(engine.tried(events[some:]), tried)
                self.assertEqual(tried, [row for _, row in engine.feed(events[some:])])

    def test_a_broken_promise_changes_nothing(self):
        engine = Engine(LEFT)
        list(engine.feed(EVENTS[:2]))
        before = contents(engine)
        self.refused(BrokenPromise, "index", 1, engine.tried, [
            ("promise", "gone", {"who": "ann"}), ("promise", "gone", {"who": "bob"}), ("row", "gone", BOB),
        ])
        self.assertEqual(contents(engine), before)
        self.assertEqual(engine.promise("gone", {}), [ANN, BOB])


class CopiesTest(EngineCase):
    def test_copies_go_their_own_way(self):
        for seed in range(60):
            chance, query, events = drawn_history(seed)
            engine = Engine(query)
            some = chance.randrange(len(events) + 1)
            list(engine.feed(events[:some]))
            other = engine.copy()
            self.assertIsInstance(other, Engine)
            with self.subTest(seed=seed):
                self.assertEqual(other.query, query)
                before = contents(engine)
                self.assertEqual(contents(other), before)
                given = list(other.feed(events[some:]))
                self.assertEqual(contents(engine), before)
                after = contents(other)
                self.assertEqual(list(engine.feed(events[some:])), given)
                self.assertEqual(contents(engine), after)
                engine.promise(query.streams()[0], {})
                self.assertEqual(contents(other), after)

    def test_replayed_engines(self):
        for seed in range(60):
            chance, query, events = drawn_history(seed)
            engine = Engine(query)
            list(engine.feed(events))
            other = Engine.replayed(query, engine.events())
            with self.subTest(seed=seed):
                self.assertIsInstance(other, Engine)
                self.assertEqual(contents(other), contents(engine))
                event = ("promise", query.streams()[-1], drawn_limits(chance, columns_of(query)[query.streams()[-1]]))
                self.assertEqual(list(other.feed([event])), list(engine.feed([event])))

    def test_replayed_with_a_broken_promise(self):
        events = [("promise", "gone", {"who": "ann"}), ("promise", "gone", {}), ("row", "gone", ANN)]
        self.refused(BrokenPromise, "index", 0, Engine.replayed, LEFT, events)


class RecordersTest(EngineCase):
    def test_a_recorder(self):
        recorder = Recorder()
        self.assertEqual((recorder.rows(), len(recorder)), ([], 0))
        self.assertIsNone(recorder(ANN))
        recorder(ANN)
        self.assertEqual((recorder.rows(), len(recorder)), ([ANN, ANN], 2))
        recorder.rows().append(BOB)
        self.assertIsNot(recorder.rows(), recorder.rows())
        self.assertEqual(len(recorder), 2)

    def test_recorders_at_any_time_get_the_same_rows(self):
        for seed in range(60):
            chance, query, events = drawn_history(seed)
            engine = Engine(query)
            recorders = [Recorder()]
            engine.subscribe(recorders[0])
            for event in events:
                done(engine, event)
                if chance.random() < 0.2:
                    recorders.append(Recorder())
                    engine.subscribe(recorders[-1])
                    self.assertEqual(recorders[-1].rows(), engine.out())
            recorders.append(Recorder())
            engine.subscribe(recorders[-1])
            with self.subTest(seed=seed):
                for recorder in recorders:
                    self.assertEqual(recorder.rows(), engine.out())

    def test_the_order_of_the_calls(self):
        calls = []
        engine = Engine(LEFT)
        list(engine.feed(EVENTS[:2]))
        engine.subscribe(lambda row: calls.append(("x", row)))
        engine.subscribe(lambda row: calls.append(("y", row)))
        self.assertEqual(done(engine, EVENTS[2]), [ANN, BOB])
        self.assertEqual(calls, [("x", ANN), ("y", ANN), ("x", BOB), ("y", BOB)])
        engine.subscribe(lambda row: calls.append(("z", row)))
        self.assertEqual(calls[4:], [("z", ANN), ("z", BOB)])
        list(engine.feed(EVENTS[3:]))
        self.assertEqual(calls[6:], [(letter, ("dan",)) for letter in "xyz"])

    def test_one_that_subscribed_twice(self):
        engine = Engine(COME)
        recorder = Recorder()
        engine.subscribe(recorder)
        engine.row("come", BOB)
        engine.subscribe(recorder)
        self.assertEqual(recorder.rows(), [BOB, BOB])
        engine.row("come", ANN)
        self.assertEqual(recorder.rows(), [BOB, BOB, ANN, ANN])
        engine.row("come", ANN)
        self.assertEqual(len(recorder), 4)

    def test_trials_and_copies_call_nobody(self):
        engine = Engine(COME)
        recorder = Recorder()
        engine.subscribe(recorder)
        self.assertEqual(engine.tried([("row", "come", ANN)]), [ANN])
        other = engine.copy()
        self.assertEqual(other.row("come", ANN), [ANN])
        self.assertEqual(Engine.replayed(COME, other.events()).out(), [ANN])
        self.assertEqual(recorder.rows(), [])
        engine.row("come", BOB)
        self.assertEqual(recorder.rows(), [BOB])


class ErrorsTest(EngineCase):
    def engine(self):
        engine = Engine(LEFT)
        list(engine.feed(EVENTS[:5]))
        return engine

    def test_unknown_streams_come_first(self):
        engine = self.engine()
        before = contents(engine)
        for name in NO_NAMES:
            for value in (ANN, None, {}, {"who": 3}):
                with self.subTest(name=name, value=value):
                    self.refused(UnknownStream, "stream", name, engine.row, name, value)
                    self.refused(UnknownStream, "stream", name, engine.promise, name, value)
            self.refused(UnknownStream, "stream", name, engine.stream_of, name)
        self.assertEqual(contents(engine), before)

    def test_invalid_rows_and_limits(self):
        engine = self.engine()
        before = contents(engine)
        for row in (None, (), "ann", ["ann"], ("Ann",), (3,), ("ann", "bob"), {}, (None,), ([],)):
            for name in ("come", "gone"):
                self.refused(InvalidRow, "value", row, engine.row, name, row)
        for limits in (None, [], "ann", {"whom": "ann"}, {"who": 3}, {"who": ("ann",)}, {3: 3}, {"who": None}):
            for name in ("come", "gone"):
                self.refused(InvalidBox, "value", limits, engine.promise, name, limits)
        self.assertEqual(contents(engine), before)

    def test_broken_promises(self):
        engine = self.engine()
        engine.promise("gone", {"who": ("not", "cid")})
        before = contents(engine)
        self.refused(BrokenPromise, "index", 0, engine.row, "gone", ANN)
        self.refused(BrokenPromise, "index", 1, engine.row, "gone", ("eve",))
        self.assertEqual(contents(engine), before)
        self.assertEqual(engine.row("gone", CID), [])
        self.assertEqual(engine.promise("gone", {}), [])
        self.assertEqual(engine.row("come", ("eve",)), [("eve",)])

    def test_engines_go_on_after_errors(self):
        for seed in range(30):
            chance, query, events = drawn_history(seed)
            engine, other = Engine(query), Engine(query)
            for event in events:
                for name in query.streams():
                    self.assertRaises(InvalidRow, engine.row, name, None)
                    for row in chance.sample(world(columns_of(query)[name]), 2):
                        stream = engine.stream_of(name)
                        if row not in stream and not stream.is_open(row):
                            self.assertRaises(BrokenPromise, engine.row, name, row)
                self.assertEqual(done(engine, event), done(other, event))
            self.assertEqual(contents(engine), contents(other))


if __name__ == "__main__":
    unittest.main()
