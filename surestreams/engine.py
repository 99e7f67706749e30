"""The engine: gives out each row of a result once, as soon as it is sure."""

from surestreams.columns import fits
from surestreams.errors import InvalidEvent, UnknownStream
from surestreams.queries import use_of
from surestreams.spans import is_limits
from surestreams.state import State
from surestreams.streams import Stream


class Engine:
    """A query, its streams, all events, and the rows that are out."""

    def __init__(self, query):
        self._query = query
        self._streams = {name: Stream(name, use_of(query, name)[1]) for name in query.streams()}
        self._state = State(query, self._streams)
        self._given = {}
        self._events = []
        self._calls = []

    @property
    def query(self):
        """The query."""
        return self._query

    def row(self, name, row):
        """Performs the event that a row comes; returns the rows that are given out."""
        if known_stream(self, name).add(row):
            self._state.row_came(name)
        self._events.append(("row", name, row))
        return given_out(self)

    def promise(self, name, limits):
        """Performs the event of a promise; returns the rows that are given out."""
        known_stream(self, name).promise(limits)
        self._state.promise_came(name)
        self._events.append(("promise", name, {column: limits[column] for column in limits}))
        return given_out(self)

    def out(self):
        """Returns the rows that are out, in the order in which they were given out."""
        return list(self._given)

    def waiting(self):
        """Returns the rows of the present result that are not out, in ascending order."""
        return sorted([row for row in self._state.result(self._state.top) if row not in self._given])

    def events(self):
        """Returns all events that were performed, in order."""
        return [copied(event) for event in self._events]

    def stream_of(self, name):
        """Returns a copy of a stream."""
        return known_stream(self, name).copy()

    def feed(self, events):
        """Performs events one after the other; yields a pair of its index and a row for each row given out."""
        check_events(self._query, events)
        for index, event in enumerate(events):
            for row in performed(self, event):
                yield (index, row)

    def tried(self, events):
        """Returns the rows that the events would give out."""
        other = self.copy()
        return [row for _, row in other.feed(events)]

    def subscribe(self, call):
        """Calls call with each row that is out, in order, and from now on with each row given out."""
        for row in self.out():
            call(row)
        self._calls.append(call)

    def copy(self):
        """Returns an independent engine with the same events, without subscribers."""
        other = Engine(self._query)
        for name in self._query.streams():
            # The state of the other engine goes by this very dict.
            other._streams[name] = self._streams[name].copy()
        other._given = {row: True for row in self._given}
        other._events = self.events()
        return other

    @classmethod
    def replayed(cls, query, events):
        """Returns an engine that has performed a list of events."""
        engine = cls(query)
        for _ in engine.feed(events):
            pass
        return engine


class Recorder:
    """A subscriber that notes the rows."""

    def __init__(self):
        self._noted = []

    def __call__(self, row):
        """Notes a row."""
        self._noted.append(row)

    def rows(self):
        """Returns the noted rows, in order."""
        return list(self._noted)

    def __len__(self):
        """Returns the number of the noted rows."""
        return len(self._noted)


def known_stream(engine, name):
    """Returns the stream of this name, or raises UnknownStream."""
    if not isinstance(name, str) or name not in engine._streams:
        raise UnknownStream(name)
    return engine._streams[name]


def state_now(engine):
    """Returns the state of an engine, which changes with each event."""
    return engine._state


def given_out(engine):
    """Gives out the rows that are sure and not yet out; returns them in ascending order."""
    state = engine._state
    rows = [row for row in engine.waiting() if state.is_sure(state.top, row)]
    for row in rows:
        engine._given[row] = True
    for row in rows:
        for call in list(engine._calls):
            call(row)
    return rows


def copied(event):
    """Returns an event that has no dict in common with an event."""
    kind, name, value = event
    if kind == "row":
        return event
    return (kind, name, {column: value[column] for column in value})


def performed(engine, event):
    """Performs an event; returns the rows that are given out."""
    kind, name, value = event
    if kind == "row":
        return engine.row(name, value)
    return engine.promise(name, value)


def check_events(query, events):
    """Raises InvalidEvent with the first value that is not an event of the streams of a query."""
    for event in events:
        if not is_event(query, event):
            raise InvalidEvent(event)


def is_event(query, value):
    """Returns whether any value is an event of the streams of a query."""
    if not isinstance(value, tuple) or len(value) != 3:
        return False
    kind, name, content = value
    if not isinstance(name, str) or name not in query.streams():
        return False
    columns = use_of(query, name)[1]
    if kind == "row":
        return fits(columns, content)
    return kind == "promise" and is_limits(columns, content)
