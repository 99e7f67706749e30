"""The engine: gives out each row of a result once, as soon as it is sure."""

from surestreams.errors import UnknownStream
from surestreams.events import check_event, columns_used, copied
from surestreams.outlets import Outlet
from surestreams.streams import Stream


class Engine:
    """A query, its streams, all events, and the rows that are out."""

    def __init__(self, query):
        self._query = query
        self._streams = {name: Stream(name, columns) for name, columns in columns_used(query).items()}
        self._outlet = Outlet(query, self._streams)
        self._events = []
        self._calls = []

    @property
    def query(self):
        """The query."""
        return self._query

    def row(self, name, row):
        """Performs the event that a row comes; returns the rows that are given out."""
        if known_stream(self, name).add(row):
            self._outlet.state.row_came(name)
        self._events.append(("row", name, row))
        return given_out(self)

    def promise(self, name, limits):
        """Performs the event of a promise; returns the rows that are given out."""
        known_stream(self, name).promise(limits)
        self._outlet.state.promise_came(name)
        self._events.append(("promise", name, {column: limits[column] for column in limits}))
        return given_out(self)

    def out(self):
        """Returns the rows that are out, in the order in which they were given out."""
        return list(self._outlet.given)

    def waiting(self):
        """Returns the rows of the present result that are not out, in ascending order."""
        return self._outlet.waiting()

    def events(self):
        """Returns all events that were performed, in order."""
        return [copied(event) for event in self._events]

    def stream_of(self, name):
        """Returns a copy of a stream."""
        return known_stream(self, name).copy()

    def feed(self, events):
        """Performs events one after the other; yields a pair of its index and a row for each row given out."""
        check_events(self._query, events)
        for index, event in enumerate(events):
            for row in performed(self, event):
                yield (index, row)

    def tried(self, events):
        """Returns the rows that the events would give out."""
        other = self.copy()
        return [row for _, row in other.feed(events)]

    def subscribe(self, call):
        """Calls call with each row that is out, in order, and from now on with each row given out."""
        for row in self.out():
            call(row)
        self._calls.append(call)

    def copy(self):
        """Returns an independent engine with the same events, without subscribers."""
        other = Engine(self._query)
        for name in self._query.streams():
            # The outlet of the other engine goes by this very dict.
            other._streams[name] = self._streams[name].copy()
        other._outlet.take_over(self._outlet)
        other._events = self.events()
        return other

    @classmethod
    def replayed(cls, query, events):
        """Returns an engine that has performed a list of events."""
        engine = cls(query)
        for _ in engine.feed(events):
            pass
        return engine


class Recorder:
    """A subscriber that notes the rows."""

    def __init__(self):
        self._noted = []

    def __call__(self, row):
        """Notes a row."""
        self._noted.append(row)

    def rows(self):
        """Returns the noted rows, in order."""
        return list(self._noted)

    def __len__(self):
        """Returns the number of the noted rows."""
        return len(self._noted)


def known_stream(engine, name):
    """Returns the stream of this name, or raises UnknownStream."""
    if not isinstance(name, str) or name not in engine._streams:
        raise UnknownStream(name)
    return engine._streams[name]


def state_now(engine):
    """Returns the state of an engine, which changes with each event."""
    return engine._outlet.state


def given_out(engine):
    """Gives out the rows that are sure and not yet out; returns them in ascending order."""
    rows = engine._outlet.give()
    for row in rows:
        for call in list(engine._calls):
            call(row)
    return rows


def performed(engine, event):
    """Performs an event; returns the rows that are given out."""
    kind, name, value = event
    if kind == "row":
        return engine.row(name, value)
    return engine.promise(name, value)


def check_events(query, events):
    """Raises InvalidEvent with the first value that is not an event of the streams of a query."""
    columns = columns_used(query)
    for event in events:
        check_event(columns, event)
