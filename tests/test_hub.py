"""Points 2, 3 (m), 3 (n), 17 and 18: hubs, views, subscribers and journals."""

import unittest
from copy import deepcopy
from random import Random

from surestreams.bounds import present, sure
from surestreams.engine import Engine
from surestreams.errors import (
    BrokenPromise, DamagedJournal, InvalidColumns, InvalidEvent, InvalidName, InvalidNumber, InvalidQuery, InvalidSyntax, InvalidText,
    MixedUse, NameTaken, UnknownName, UnknownStream,
)
from surestreams.formats import format_limits, format_row
from surestreams.hub import Hub
from surestreams.language import format_query, parse_query
from surestreams.queries import source
from surestreams.streams import Stream
from tests.plain import columns_of, drawn_history, drawn_limits, drawn_query, drawn_sources, world
from tests.test_engine import NO_EVENTS

WHO = (("who", "word"),)
BOTH = (("who", "word"), ("day", "number"))
ANN, BOB, CID = ("ann",), ("bob",), ("cid",)
COME, GONE = source("come", WHO), source("gone", WHO)
NO_WORDS = [None, True, 3, "", "Ann", "a b", "a1", " a", "a\n", b"a", ("a",), ["a"], {}, object(), Hub]
NO_COLUMNS = [None, 3, "who", (), [], [("who", "word")], (("who", "text"),), (("Who", "word"),), WHO + WHO, (("who", "word", 1),)]


def leaving():
    """Returns a hub with two streams and a view."""
    hub = Hub()
    hub.declare("come", WHO)
    hub.declare("gone", WHO)
    hub.define("left", "come - gone")
    return hub


def contents(hub):
    """Returns all that can be asked of a hub."""
    streams = [hub.stream_of(name) for name in hub.streams()]
    views = [(name, hub.query_of(name), hub.out(name), hub.waiting(name)) for name in hub.views()]
    return deepcopy((
        [(stream.name, stream.columns, stream.rows(), [box.limits() for box in stream.promises()]) for stream in streams],
        [(name, format_query(query), out, waiting) for name, query, out, waiting in views],
        [(name, hub.pending(name)) for name in hub.subscribers()],
    ))


def lines_of(bodies):
    """Returns the journal with these bodies."""
    return "".join(f"{number} {len(body)} {body}\n" for number, body in enumerate(bodies))


def bodies_of(journal):
    """Returns the bodies of the lines of a journal."""
    return [line.split(" ", 2)[2] for line in journal.split("\n")[:-1]]


class Plain:
    """A hub without shortcuts: each answer is worked out from the streams anew."""

    def __init__(self):
        self.streams, self.queries, self.given, self.readers, self.bodies = {}, {}, {}, {}, []

    def declare(self, name, columns):
        self.streams[name] = Stream(name, columns)
        self.bodies.append(f"declare {name} " + " ".join(f"{each}:{kind}" for each, kind in columns))

    def define(self, name, text):
        known = {each: source(each, stream.columns) for each, stream in self.streams.items()}
        query = parse_query(text, {**known, **self.queries})
        self.queries[name], self.given[name] = query, []
        self.bodies.append(f"define {name} {format_query(query)}")
        return self.give(name)

    def give(self, name):
        rows = sorted(set(sure(self.queries[name], self.streams)) - set(self.given[name]))
        self.given[name] += rows
        return rows

    def drop(self, name):
        del self.queries[name], self.given[name]
        self.readers = {reader: (view, number) for reader, (view, number) in self.readers.items() if view != name}
        self.bodies.append(f"drop {name}")

    def commit(self, events):
        texts = []
        for kind, name, value in events:
            columns = self.streams[name].columns
            texts.append(f"{kind} {name} " + (format_row(columns, value) if kind == "row" else format_limits(columns, value)))
            if kind == "row":
                self.streams[name].add(value)
            else:
                self.streams[name].promise(value)
        self.bodies.append(" ".join(["commit"] + ["; ".join(texts)] * bool(texts)))
        told = {name: self.give(name) for name in self.queries}
        return {name: rows for name, rows in told.items() if rows}

    def subscribe(self, name, view):
        self.readers[name] = (view, 0)
        self.bodies.append(f"subscribe {name} {view}")

    def acknowledge(self, name, number):
        self.readers[name] = (self.readers[name][0], number)
        self.bodies.append(f"acknowledge {name} {number}")

    def contents(self):
        views = sorted(self.queries)
        return (
            [(name, each.columns, each.rows(), [box.limits() for box in each.promises()]) for name, each in sorted(self.streams.items())],
            [(
                name, format_query(self.queries[name]), self.given[name],
                [row for row in present(self.queries[name], self.streams) if row not in self.given[name]],
            ) for name in views],
            [(name, list(enumerate(self.given[view]))[number:]) for name, (view, number) in sorted(self.readers.items())],
        )


def drawn_commit(chance, plain):
    """Returns a list of events that break no promise."""
    events, streams = [], {name: stream.copy() for name, stream in plain.streams.items()}
    for _ in range(chance.choice([0, 1, 1, 2, 3, 5])):
        stream = streams[chance.choice(sorted(streams))]
        row = chance.choice(world(stream.columns))
        if chance.random() < 0.7 and (row in stream or stream.is_open(row)):
            stream.add(row)
            events.append(("row", stream.name, row))
        elif chance.random() < 0.6:
            limits = drawn_limits(chance, stream.columns)
            stream.promise(limits)
            events.append(("promise", stream.name, limits))
    return events


def drawn_operation(chance, plain, sources):
    """Returns a drawn operation with its arguments that raises no error."""
    kind = chance.choice(["declare", "define", "define", "drop", "commit", "commit", "commit", "commit", "subscribe", "acknowledge", "acknowledge"])
    free = [name for name in ("v", "w", "x", "y") if name not in plain.queries]
    missing = [each for each in sources if each.parts()[1] not in plain.streams]
    there = [each for each in sources if each.parts()[1] in plain.streams]
    if missing and (kind == "declare" or not there):
        return ("declare", missing[0].parts()[1], missing[0].columns)
    if kind == "define" and free:
        return ("define", chance.choice(free), format_query(drawn_query(chance, there, chance.randrange(4))))
    if kind == "drop" and plain.queries:
        return ("drop", chance.choice(sorted(plain.queries)))
    if kind == "subscribe" and plain.queries and len(plain.readers) < 3:
        return ("subscribe", [name for name in "stu" if name not in plain.readers][0], chance.choice(sorted(plain.queries)))
    if kind == "acknowledge" and plain.readers:
        name = chance.choice(sorted(plain.readers))
        view, number = plain.readers[name]
        return ("acknowledge", name, chance.randrange(number, len(plain.given[view]) + 1))
    return ("commit", drawn_commit(chance, plain))


def drawn_hub(seed, number):
    """Returns a hub, and the plain one, after so many drawn operations, and the operations."""
    chance = Random(seed)
    hub, plain, operations = Hub(), Plain(), []
    sources = drawn_sources(chance)
    for _ in range(number):
        kind, *arguments = operation = drawn_operation(chance, plain, sources)
        assert getattr(hub, kind)(*deepcopy(arguments)) == getattr(plain, kind)(*deepcopy(arguments)), (seed, operation)
        operations.append(operation)
    return (hub, plain, operations)


class HubCase(unittest.TestCase):
    def refused(self, error, field, value, hub, call, *arguments):
        before = (hub.journal(), contents(hub))
        with self.assertRaises(error) as caught:
            getattr(hub, call)(*arguments)
        self.assertIs(type(caught.exception), error)
        found = getattr(caught.exception, field)
        self.assertTrue(found is value or found == value)
        self.assertEqual((hub.journal(), contents(hub)), before)


class OperationsTest(HubCase):
    def test_drawn_operations(self):
        for seed in range(150):
            hub, plain, _ = drawn_hub(seed, 25)
            with self.subTest(seed=seed):
                self.assertEqual(contents(hub), plain.contents())
                self.assertEqual(hub.journal(), lines_of(plain.bodies))
                self.assertEqual((hub.streams(), hub.views(), hub.subscribers()), (sorted(plain.streams), sorted(plain.queries), sorted(plain.readers)))

    def test_a_view_is_an_engine(self):
        for seed in range(100):
            chance, query, events = drawn_history(seed, 5, 16)
            hub, engine = Hub(), Engine(query)
            for name, columns in columns_of(query).items():
                hub.declare(name, columns)
            self.assertEqual(hub.define("view", format_query(query)), [])
            for event in events:
                rows = [row for _, row in engine.feed([event])]
                with self.subTest(seed=seed):
                    self.assertEqual(hub.commit([event]), {"view": rows} if rows else {})
                    self.assertEqual((hub.out("view"), hub.waiting("view")), (engine.out(), engine.waiting()))
            self.assertEqual(hub.query_of("view"), query)
            self.assertEqual(hub.define("late", format_query(query)), sorted(engine.out()))
            self.assertEqual(hub.waiting("late"), engine.waiting())

    def test_an_empty_hub(self):
        hub = Hub()
        self.assertEqual((hub.streams(), hub.views(), hub.subscribers(), hub.journal(), hub.compacted()), ([], [], [], "", ""))
        self.assertEqual(hub.commit([]), {})
        self.assertEqual(hub.journal(), "0 6 commit\n")

    def test_commits(self):
        hub = leaving()
        self.assertEqual(hub.define("also", "come"), [])
        self.assertEqual(hub.commit([("row", "come", BOB), ("row", "come", ANN)]), {"also": [ANN, BOB]})
        self.assertEqual(hub.commit([("promise", "gone", {"who": "bob"}), ("row", "come", CID), ("promise", "gone", {})]), {"also": [CID], "left": [ANN, BOB, CID]})
        self.assertEqual((hub.out("also"), hub.out("left"), hub.waiting("left")), ([ANN, BOB, CID], [ANN, BOB, CID], []))
        self.assertEqual(hub.commit([("row", "come", ANN), ("row", "come", ANN)]), {})
        self.assertEqual(hub.commit([]), {})
        self.assertEqual(bodies_of(hub.journal())[4:], [
            "commit row come bob; row come ann", "commit promise gone who=bob; row come cid; promise gone *", "commit row come ann; row come ann", "commit",
        ])

    def test_rows_of_one_commit_in_ascending_order(self):
        hub = leaving()
        hub.commit([("row", "come", (word,)) for word in ("b", "aa", "c", "a")])
        self.assertEqual(hub.waiting("left"), [("a",), ("aa",), ("b",), ("c",)])
        self.assertEqual(hub.commit([("promise", "gone", {"who": "c"}), ("promise", "gone", {"who": ("in", "b", "a")})]), {"left": [("a",), ("b",), ("c",)]})
        self.assertEqual(hub.commit([("promise", "gone", {})]), {"left": [("aa",)]})
        self.assertEqual(hub.out("left"), [("a",), ("b",), ("c",), ("aa",)])

    def test_what_define_returns_at_once(self):
        hub = leaving()
        hub.commit([("row", "come", BOB), ("row", "come", ANN), ("row", "come", CID), ("promise", "gone", {"who": ("not", "cid")})])
        self.assertEqual(hub.define("more", "come - gone"), [ANN, BOB])
        self.assertEqual((hub.out("more"), hub.waiting("more")), ([ANN, BOB], [CID]))
        self.assertEqual(hub.define("all", "left | come"), [ANN, BOB, CID])
        self.assertEqual(hub.commit([("promise", "gone", {})]), {"left": [CID], "more": [CID]})

    def test_views_over_views(self):
        hub = leaving()
        hub.define("short", "left{who != ann}")
        hub.define("both", "short & left")
        self.assertEqual(hub.query_of("short"), (COME - GONE).where("who", "!=", "ann"))
        self.assertEqual(bodies_of(hub.journal())[3:], ["define short (come - gone){who != ann}", "define both (come - gone){who != ann} & (come - gone)"])
        hub.commit([("row", "come", ANN), ("row", "come", BOB)])
        self.assertEqual(hub.commit([("promise", "gone", {})]), {"both": [BOB], "left": [ANN, BOB], "short": [BOB]})
        hub.drop("left")
        self.assertEqual(hub.query_of("short"), (COME - GONE).where("who", "!=", "ann"))
        self.assertEqual(hub.commit([("row", "come", CID)]), {"both": [CID], "short": [CID]})
        hub.define("left", "gone")
        self.assertEqual(hub.query_of("both"), (COME - GONE).where("who", "!=", "ann") & (COME - GONE))
        self.assertEqual(hub.define("last", "left"), [])

    def test_names_that_are_taken_dropped_and_used_again(self):
        hub = leaving()
        hub.drop("left")
        self.assertEqual(hub.views(), [])
        hub.declare("left", BOTH)
        self.refused(NameTaken, "word", "left", hub, "define", "left", "come")
        hub.define("right", "left[who] - gone")
        self.refused(NameTaken, "word", "right", hub, "declare", "right", WHO)
        hub.drop("right")
        hub.define("right", "left")
        self.assertEqual(hub.commit([("row", "left", ("ann", 3))]), {"right": [("ann", 3)]})
        self.assertEqual((hub.streams(), hub.views()), (["come", "gone", "left"], ["right"]))
        hub.subscribe("come", "right")
        hub.subscribe("right", "right")
        self.assertEqual(hub.subscribers(), ["come", "right"])
        self.assertEqual(Hub.recovered(hub.journal()).journal(), hub.journal())

    def test_subscribers(self):
        hub = leaving()
        hub.commit([("row", "come", ANN), ("row", "come", BOB), ("promise", "gone", {"who": "bob"})])
        hub.subscribe("x", "left")
        hub.subscribe("y", "left")
        self.assertEqual((hub.pending("x"), hub.subscribers()), ([(0, BOB)], ["x", "y"]))
        self.assertIsNone(hub.acknowledge("x", 1))
        self.assertEqual((hub.pending("x"), hub.pending("y")), ([], [(0, BOB)]))
        self.assertIsNone(hub.acknowledge("y", 0))
        hub.commit([("promise", "gone", {}), ("row", "come", CID)])
        self.assertEqual((hub.pending("x"), hub.pending("y")), ([(1, ANN), (2, CID)], [(0, BOB), (1, ANN), (2, CID)]))
        for number in (1, 1, 2, 3, 3):
            hub.acknowledge("x", number)
            self.assertEqual(hub.pending("x"), list(enumerate([BOB, ANN, CID]))[number:])

    def test_subscribers_go_with_their_view(self):
        hub = leaving()
        hub.define("more", "come")
        for name, view in (("x", "left"), ("y", "more"), ("z", "left")):
            hub.subscribe(name, view)
        hub.commit([("row", "come", ANN)])
        hub.acknowledge("y", 1)
        self.assertIsNone(hub.drop("left"))
        self.assertEqual(hub.subscribers(), ["y"])
        for name in ("x", "z"):
            self.refused(UnknownName, "word", name, hub, "pending", name)
            self.refused(UnknownName, "word", name, hub, "acknowledge", name, 0)
        hub.define("left", "come")
        self.refused(UnknownName, "word", "x", hub, "pending", "x")
        hub.subscribe("x", "left")
        self.assertEqual((hub.pending("x"), hub.pending("y")), ([(0, ANN)], []))

    def test_returned_values_are_new(self):
        hub = leaving()
        rows = hub.commit([("row", "come", ANN), ("promise", "gone", {})])
        hub.subscribe("x", "left")
        before = (hub.journal(), contents(hub))
        rows["left"].append("x")
        rows.clear()
        hub.define("more", "left").append("x")
        hub.drop("more")
        for call in (hub.streams, hub.views, hub.subscribers):
            self.assertEqual(call(), call())
            call().append("x")
        for call, name in ((hub.out, "left"), (hub.waiting, "left"), (hub.pending, "x")):
            call(name).append("x")
            call(name).clear()
        hub.stream_of("come").add(BOB)
        hub.stream_of("come").promise({})
        self.assertEqual(contents(hub), before[1])
        self.assertEqual(hub.commit([("row", "come", BOB)]), {"left": [BOB]})

    def test_arguments_do_not_change(self):
        hub = leaving()
        events = [("promise", "gone", {"who": ("in", "b", "a", "b")}), ("row", "come", ("a",))]
        before = deepcopy(events)
        self.assertEqual(hub.commit(events), {"left": [("a",)]})
        self.assertEqual(events, before)
        events[0][2]["who"] = "x"
        events.clear()
        self.assertEqual([box.limits() for box in hub.stream_of("gone").promises()], [{"who": ("in", "a", "b")}])
        self.assertEqual(bodies_of(hub.journal())[-1], "commit promise gone who=a,b; row come a")

    def test_by_name(self):
        hub = Hub()
        hub.declare(columns=WHO, name="come")
        self.assertEqual(hub.define(text="come", name="all"), [])
        self.assertEqual(hub.commit(events=[("row", "come", ANN)]), {"all": [ANN]})
        hub.subscribe(view="all", name="x")
        hub.acknowledge(number=1, name="x")
        self.assertEqual((hub.pending(name="x"), hub.out(name="all"), hub.waiting(name="all"), hub.query_of(name="all")), ([], [ANN], [], COME))
        self.assertEqual((hub.stream_of(name="come").rows(), Hub.recovered(text=hub.journal()).journal(), hub.as_of(number=1).streams()), ([ANN], hub.journal(), ["come"]))
        hub.drop(name="all")
        self.assertEqual(hub.views(), [])


class ErrorsTest(HubCase):
    def setUp(self):
        self.hub = leaving()
        self.hub.commit([("row", "come", ANN), ("row", "come", BOB), ("promise", "gone", {"who": "ann"}), ("promise", "come", {"who": "eve"})])
        self.hub.subscribe("x", "left")
        self.hub.define("more", "come[who]")
        self.hub.subscribe("y", "more")
        self.hub.acknowledge("y", 1)

    def test_declare(self):
        for name in NO_WORDS:
            self.refused(InvalidName, "value", name, self.hub, "declare", name, WHO)
            self.refused(InvalidName, "value", name, self.hub, "declare", name, None)
        for columns in NO_COLUMNS:
            self.refused(InvalidColumns, "value", columns, self.hub, "declare", "new", columns)
            self.refused(InvalidColumns, "value", columns, self.hub, "declare", "come", columns)
        for name in ("come", "gone", "left", "more"):
            self.refused(NameTaken, "word", name, self.hub, "declare", name, WHO)

    def test_define(self):
        for name in NO_WORDS:
            self.refused(InvalidName, "value", name, self.hub, "define", name, "come")
            self.refused(InvalidName, "value", name, self.hub, "define", name, None)
        for name in ("come", "gone", "left", "more"):
            self.refused(NameTaken, "word", name, self.hub, "define", name, "come")
            self.refused(NameTaken, "word", name, self.hub, "define", name, None)
        for text in (None, 3, b"come", [], COME):
            self.refused(InvalidText, "value", text, self.hub, "define", "new", text)
        for text, error, field, value in (
            ("come -", InvalidSyntax, "position", 6), ("", InvalidSyntax, "position", 0), ("new", UnknownStream, "stream", "new"), ("x | y", UnknownStream, "stream", "x"),
            ("come - come", MixedUse, "stream", "come"), ("gone | left", MixedUse, "stream", "gone"), ("come{day = 3}", InvalidQuery, "value", "day"), ("zzz - come -", InvalidSyntax, "position", 12),
            ("come[day] | zzz", UnknownStream, "stream", "zzz"),
        ):
            self.refused(error, field, value, self.hub, "define", "new", text)

    def test_drop(self):
        for name in NO_WORDS + ["come", "gone", "x", "new"]:
            self.refused(UnknownName, "word", name, self.hub, "drop", name)

    def test_commit(self):
        for value in (None, True, 3, "row come ann", (), (("row", "come", ANN),), {}, {"row": "come"}, object(), iter([])):
            self.refused(InvalidEvent, "value", value, self.hub, "commit", value)
        good, broken = ("row", "come", CID), ("row", "gone", ANN)
        for value in NO_EVENTS + [("row", "more", ANN), ("row", "x", ANN)]:
            for events in ([value], [good, value], [broken, value, None], [value, broken], [good, broken, value]):
                self.refused(InvalidEvent, "value", value, self.hub, "commit", events)
        for events, index in (
            ([broken], 0), ([good, broken, good], 0), ([("row", "come", ("eve",))], 0), ([("promise", "come", {}), ("row", "come", CID)], 1), ([good, ("promise", "gone", {}), ("row", "gone", CID)], 1),
            ([("promise", "come", {"who": "dan"}), ("promise", "come", {}), ("row", "come", ("dan",)), broken], 1), ([("row", "come", ("eve",)), broken], 0),
        ):
            self.refused(BrokenPromise, "index", index, self.hub, "commit", events)
        self.assertEqual(self.hub.commit([("promise", "come", {}), ("row", "come", ANN)]), {})

    def test_subscribe(self):
        for name in NO_WORDS:
            self.refused(InvalidName, "value", name, self.hub, "subscribe", name, "left")
            self.refused(InvalidName, "value", name, self.hub, "subscribe", name, None)
        for name in ("x", "y"):
            self.refused(NameTaken, "word", name, self.hub, "subscribe", name, "left")
            self.refused(NameTaken, "word", name, self.hub, "subscribe", name, None)
        for view in NO_WORDS + ["come", "x", "new"]:
            self.refused(UnknownName, "word", view, self.hub, "subscribe", "z", view)

    def test_acknowledge(self):
        for name in NO_WORDS + ["come", "left", "new"]:
            self.refused(UnknownName, "word", name, self.hub, "acknowledge", name, 1)
            self.refused(UnknownName, "word", name, self.hub, "acknowledge", name, None)
            self.refused(UnknownName, "word", name, self.hub, "pending", name)
        for number in (None, True, False, "1", "", 1.0, (1,), [], {}, -1, 0, 3, 10 ** 30, object()):
            self.refused(InvalidNumber, "value", number, self.hub, "acknowledge", "y", number)
        for number in (-1, 2, True, False):
            self.refused(InvalidNumber, "value", number, self.hub, "acknowledge", "x", number)
        for number in (1, 2):
            self.assertIsNone(self.hub.acknowledge("y", number))

    def test_questions(self):
        for name in NO_WORDS + ["left", "more", "x", "new"]:
            self.refused(UnknownStream, "stream", name, self.hub, "stream_of", name)
        for name in NO_WORDS + ["come", "gone", "x", "new"]:
            for call in ("query_of", "out", "waiting"):
                self.refused(UnknownName, "word", name, self.hub, call, name)

    def test_as_of(self):
        for number in (None, True, False, "1", 1.0, (1,), [], {}, -1, 9, 10 ** 30):
            self.refused(InvalidNumber, "value", number, self.hub, "as_of", number)
        self.assertEqual(self.hub.as_of(8).journal(), self.hub.journal())


class JournalTest(HubCase):
    def test_the_line_of_each_operation(self):
        hub = leaving()
        hub.declare("orders", (("who", "word"), ("day", "number"), ("closure", "word")))
        hub.define("late", "  orders{day>10}[ who]&(left)")
        hub.commit([])
        hub.commit([("row", "orders", ("ann", 12, "x")), ("promise", "orders", {"day": (None, 3), "who": ("not", "bob", "ann")}), ("promise", "gone", {"who": ("not",)}), ("promise", "gone", {"who": ("in",)})])
        hub.commit([("row", "come", ANN)])
        hub.subscribe("reader", "late")
        hub.acknowledge("reader", 0)
        hub.acknowledge("reader", 1)
        hub.drop("late")
        self.assertEqual(hub.journal().split("\n"), [
            "0 21 declare come who:word", "1 21 declare gone who:word", "2 23 define left come - gone", "3 47 declare orders who:word day:number closure:word",
            "4 49 define late orders{day > 10}[who] & (come - gone)", "5 6 commit", "6 98 commit row orders ann 12 x; promise orders who!ann,bob day=0..3; promise gone *; promise gone who=",
            "7 19 commit row come ann", "8 21 subscribe reader late", "9 20 acknowledge reader 0", "10 20 acknowledge reader 1", "11 9 drop late", "",
        ])

    def test_cut_at_each_character(self):
        for seed in range(12):
            hub, _, _ = drawn_hub(seed, 10)
            journal = hub.journal()
            states = [contents(hub.as_of(number)) for number in range(11)]
            for size in range(len(journal) + 1):
                other = Hub.recovered(journal[:size])
                number = journal[:size].count("\n")
                if contents(other) != states[number] or other.journal() != "".join(line + "\n" for line in journal.split("\n")[:number]):
                    self.fail((seed, size))

    def test_after_a_crash(self):
        for seed in range(60):
            hub, _, operations = drawn_hub(seed, 18)
            journal = hub.journal()
            chance = Random(seed)
            for _ in range(4):
                size = chance.randrange(len(journal) + 1)
                other = Hub.recovered(journal[:size])
                rows = {name: other.out(name) for name in other.views()}
                pending = {name: other.pending(name) for name in other.subscribers()}
                done = hub.as_of(journal[:size].count("\n"))
                self.assertEqual((rows, pending), ({name: done.out(name) for name in done.views()}, {name: done.pending(name) for name in done.subscribers()}))
                for kind, *arguments in operations[journal[:size].count("\n"):]:
                    getattr(other, kind)(*arguments)
                with self.subTest(seed=seed, size=size):
                    self.assertEqual((other.journal(), contents(other)), (journal, contents(hub)))

    def test_as_of_goes_its_own_way(self):
        for seed in range(60):
            hub, plain, operations = drawn_hub(seed, 12)
            states = [(hub.as_of(number).journal(), contents(hub.as_of(number))) for number in range(13)]
            again, chance = Hub(), Random(seed)
            for number, (kind, *arguments) in enumerate(operations):
                self.assertEqual((again.journal(), contents(again)), states[number])
                getattr(again, kind)(*arguments)
            self.assertEqual((again.journal(), contents(again)), states[12])
            number = chance.randrange(13)
            other = hub.as_of(number)
            other.declare("own", WHO)
            other.define("mine", "own")
            other.commit([("row", "own", ANN)])
            with self.subTest(seed=seed):
                self.assertEqual((hub.journal(), contents(hub)), states[12])
                before = contents(other)
                hub.commit(drawn_commit(chance, plain))
                self.assertEqual(contents(other), before)

    def test_a_recovered_hub_goes_on(self):
        hub = leaving()
        hub.commit([("row", "come", ANN)])
        other = Hub.recovered(hub.journal() + "4 9 drop l")
        self.assertEqual(other.journal(), hub.journal())
        self.assertEqual(other.commit([("promise", "gone", {})]), {"left": [ANN]})
        self.assertEqual(hub.waiting("left"), [ANN])

    def test_texts(self):
        for value in (None, True, 3, b"", [], ["0 6 commit\n"], {}, (), Hub, Hub()):
            with self.assertRaises(InvalidText) as caught:
                Hub.recovered(value)
            self.assertIs(caught.exception.value, value)
        for text in ("", "x", "0 6 commit", "0 6 commi", " ", "drop x", "0 21 declare Come"):
            self.assertEqual(Hub.recovered(text).journal(), "")


class DamagedTest(HubCase):
    def damaged(self, text, line):
        with self.subTest(text=text), self.assertRaises(DamagedJournal) as caught:
            Hub.recovered(text)
        self.assertEqual(caught.exception.line, line)

    def test_lines_with_other_numbers_and_lengths(self):
        hub = leaving()
        hub.commit([("row", "come", ANN)])
        lines = hub.journal().split("\n")[:-1]
        for at, line in enumerate(lines):
            number, length, body = line.split(" ", 2)
            for other in (
                f"{at + 1} {length} {body}", f"0{number} {length} {body}", f"-1 {length} {body}", f" {number} {length} {body}", f"{number} {len(body) + 1} {body}", f"{number} {len(body) - 1} {body}",
                f"{number} 0{length} {body}", f"{number}  {length} {body}", f"{number} {length}  {body}", f"{number} {length} {body} ", f"{number} {len(body) + 1} {body} ", f"{number} {length}", body, "",
                f"{number} {length}{body}", f"+{number} {length} {body}", f"{number} {length} {body}\n", f"x {length} {body}", f"{number} x {body}", f"{number} 0 ", f"{number} {length} ", f"{length} {number} {body}",
            ):
                if other != f"{number} {length} {body}\n":
                    self.damaged("\n".join(lines[:at] + [other] + lines[at + 1:]) + "\n", at)
            self.damaged("\n".join(lines[:at + 1] + [""] + lines[at + 1:]) + "\n", at + 1)

    def test_lines_that_are_missing_doubled_or_exchanged(self):
        for seed in range(30):
            hub, _, _ = drawn_hub(seed, 12)
            lines = hub.journal().split("\n")[:-1]
            for at in range(11):
                self.damaged("\n".join(lines[:at] + lines[at + 1:]) + "\n", at)
                self.damaged("\n".join(lines[:at + 1] + lines[at:]) + "\n", at + 1)
                self.damaged("\n".join(lines[:at] + [lines[at + 1], lines[at]] + lines[at + 2:]) + "\n", at)
            self.assertEqual(Hub.recovered("\n".join(lines[:11]) + "\n").journal(), hub.as_of(11).journal())

    def test_bodies(self):
        start = ["declare come who:word day:number", "declare gone who:word", "define left come[who] - gone", "commit row come ann 3; promise gone who=bob", "subscribe x left", "define all come"]
        start += ["subscribe y all", "acknowledge y 1", "define old gone", "drop old"]
        self.assertEqual(Hub.recovered(lines_of(start)).journal(), lines_of(start))
        for body in (
            "", "x", "commits", "Commit", "commit ", " commit", "commit x", "declare", "declare new", "declare new ", "declare new who", "declare new who:", "declare new :word", "declare new who:text", "declare New who:word",
            "declare come who:word", "declare left who:word", "declare new who:word ", "declare new  who:word", "declare new who:word who:word", "declare new who:word:word", "declare new a:word b:word c:word d:word e:word f:word g:word",
            "define", "define new", "define new ", "define new come ", "define new  come", "define new (come)", "define new come-gone", "define new come[who]-gone", "define new come[ who]", "define new come{day=3}", "define new left",
            "define new come[who] - (gone)", "define new come[who] - gone - come", "define new none", "define come come", "define left come", "define New come", "define new come[who,day]", "define new come{day < 03}", "define new all",
            "define new come{day <  3}", "define new come -", "drop", "drop ", "drop new", "drop come", "drop x", "drop old", "drop left ", "drop  left", "commit row come ann", "commit row come ann 3;row come bob 3", "commit row come ann 3 ",
            "commit row come ann 3;  row come bob 3", "commit row come ann 03", "commit row come ann 3;", "commit row come ann 3; ", "commit ; row come ann 3", "commit row left ann", "commit row none ann", "commit promise gone who=b,a",
            "commit row gone bob", "commit promise gone who=a; row gone a", "commit promise gone who!", "commit promise come day=3..4 who=ann", "commit promise come day=0..", "commit promise come day=3", "commit promise come",
            "commit promise gone who=ann who=ann", "commit rows come ann 3", "commit  row come ann 3", "subscribe", "subscribe z", "subscribe z ", "subscribe z new", "subscribe z come", "subscribe x left", "subscribe z left ", "subscribe Z left",
            "subscribe z old", "subscribe  z left", "acknowledge", "acknowledge y", "acknowledge y 0", "acknowledge y 2", "acknowledge y 01", "acknowledge y -1", "acknowledge y +1", "acknowledge x 1", "acknowledge left 1", "acknowledge z 0",
            "acknowledge y 1 ", "acknowledge y", "streams", "size", "crash 0", "out left", "sure come", "waiting left", "pending x", "query left", "present come",
        ):
            self.damaged(lines_of(start + [body]), 10)
            self.damaged(lines_of(start + [body, "commit"]), 10)
        for body in (
            "commit", "declare new who:word", "declare old a:number", "define new come[who] - gone", "define new come[who, day]", "define old come{day < 3}", "drop left", "drop all", "commit row come ann 3", "commit promise come day=5..3",
            "commit row come ann 3; row come bob 0; promise come who=ann day=1..2", "subscribe z left", "subscribe old all", "subscribe left left", "acknowledge y 1", "acknowledge x 0", "commit promise gone who=",
        ):
            self.assertEqual(Hub.recovered(lines_of(start + [body])).journal(), lines_of(start + [body]))

    def test_each_changed_character(self):
        hub = leaving()
        hub.commit([("row", "come", ANN), ("promise", "gone", {"who": ("not", "b")})])
        hub.subscribe("x", "left")
        hub.acknowledge("x", 1)
        hub.define("all", "(come)|left")
        hub.drop("all")
        journal = hub.journal()
        for at in range(len(journal)):
            for sign in ("", "a", "b", "0", "1", " ", ";", "\n", "-", ":", "x" + journal[at]):
                text = journal[:at] + sign + journal[at + 1:]
                whole = text[:text.rfind("\n") + 1]
                try:
                    found = Hub.recovered(text).journal()
                except DamagedJournal as error:
                    lines = whole.split("\n")
                    self.assertEqual(Hub.recovered("".join(line + "\n" for line in lines[:error.line])).journal(), "".join(line + "\n" for line in lines[:error.line]))
                    self.assertLess(error.line, len(lines) - 1)
                else:
                    self.assertEqual(found, whole)


class CompactedTest(HubCase):
    def test_drawn_hubs(self):
        shorter = 0
        for seed in range(150):
            hub, _, _ = drawn_hub(seed, 30)
            text = hub.compacted()
            other = Hub.recovered(text)
            with self.subTest(seed=seed):
                self.assertEqual(contents(other), contents(hub))
                self.assertEqual(other.journal(), text)
                self.assertEqual(other.compacted(), text)
                words = [body.split(" ")[0] for body in bodies_of(text)]
                self.assertNotIn("drop", words)
                self.assertEqual(words.count("define"), len(hub.views()))
                self.assertEqual(words.count("subscribe"), len(hub.subscribers()))
                self.assertLessEqual(words.count("acknowledge"), len(hub.subscribers()))
                kept = [body for body in bodies_of(hub.journal()) if body.split(" ")[0] in ("declare", "commit")]
                self.assertEqual([body for body in bodies_of(text) if body.split(" ")[0] in ("declare", "commit")], kept)
                shorter += len(text) < len(hub.journal())
                hub.declare("own", WHO)
                other.declare("own", WHO)
                self.assertEqual(other.define("mine", "own"), hub.define("mine", "own"))
                self.assertEqual(contents(other), contents(hub))
        self.assertGreater(shorter, 50)

    def test_dropped_and_defined_anew(self):
        hub = leaving()
        hub.subscribe("x", "left")
        hub.commit([("row", "come", ANN), ("promise", "gone", {})])
        hub.acknowledge("x", 1)
        hub.drop("left")
        hub.define("left", "gone | come")
        hub.subscribe("x", "left")
        hub.acknowledge("x", 0)
        hub.commit([("row", "come", BOB)])
        hub.acknowledge("x", 1)
        hub.acknowledge("x", 2)
        hub.define("more", "come")
        hub.subscribe("y", "more")
        hub.acknowledge("y", 2)
        before = hub.journal()
        text = hub.compacted()
        self.assertEqual(hub.journal(), before)
        self.assertEqual(bodies_of(text), [
            "declare come who:word", "declare gone who:word", "commit row come ann; promise gone *", "define left gone | come", "subscribe x left", "commit row come bob", "acknowledge x 2",
            "define more come", "subscribe y more", "acknowledge y 2",
        ])
        self.assertEqual(text, lines_of(bodies_of(text)))
        other = Hub.recovered(text)
        self.assertEqual(contents(other), contents(hub))
        for each in (hub, other):
            self.assertEqual(each.commit([("row", "come", CID)]), {"left": [CID], "more": [CID]})
            self.assertEqual(each.pending("x"), [(2, CID)])
            each.drop("more")
        self.assertEqual(bodies_of(other.compacted()), bodies_of(hub.compacted()))
        self.assertEqual(bodies_of(hub.compacted()), [
            "declare come who:word", "declare gone who:word", "commit row come ann; promise gone *", "define left gone | come", "subscribe x left", "commit row come bob", "acknowledge x 2", "commit row come cid",
        ])

    def test_a_stream_with_the_name_of_a_dropped_view(self):
        hub = leaving()
        hub.drop("left")
        hub.declare("left", BOTH)
        hub.define("right", "left[who] - gone")
        hub.drop("right")
        hub.define("right", "left")
        self.assertEqual(bodies_of(hub.compacted()), ["declare come who:word", "declare gone who:word", "declare left who:word day:number", "define right left"])
        self.assertEqual(contents(Hub.recovered(hub.compacted())), contents(hub))


if __name__ == "__main__":
    unittest.main()
