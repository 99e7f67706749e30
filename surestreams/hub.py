"""The hub: streams, views that give out their rows like engines, subscribers, and a journal."""

from surestreams.columns import is_columns, is_number, is_word
from surestreams.commands import perform
from surestreams.errors import BrokenPromise, DamagedJournal, InvalidColumns, InvalidEvent, InvalidName
from surestreams.errors import InvalidNumber, InvalidText, MixedUse, NameTaken, StreamError, UnknownName
from surestreams.errors import UnknownStream
from surestreams.events import check_event, event_text, happen
from surestreams.language import format_query, parse_query
from surestreams.outlets import Outlet
from surestreams.queries import source
from surestreams.streams import Stream


class View:
    """A query of a hub; lines are the indexes of the lines of the journal that no one needs without the view."""

    def __init__(self, made, streams):
        self.made = made
        self.outlet = Outlet(made, streams)
        self.lines = []


class Subscriber:
    """A reader of a view; line is the index of the last line of the journal that acknowledges rows."""

    def __init__(self, view_name):
        self.view_name = view_name
        self.received = 0
        self.line = None


class Hub:
    """Streams, views and subscribers by their names, and the bodies of the lines of the journal.

    The outlets of the views go by the very dict of the streams. left_out are the indexes of the lines
    that a compacted journal does not have.
    """

    def __init__(self):
        self._streams = {}
        self._views = {}
        self._subscribers = {}
        self._bodies = []
        self._left_out = {}

    def declare(self, name, columns):
        """Adds a stream."""
        check_name(name)
        if not is_columns(columns):
            raise InvalidColumns(columns)
        check_free(self, name)
        self._streams[name] = Stream(name, columns)
        words = [f"{column}:{kind}" for column, kind in columns]
        self._bodies.append("declare " + " ".join([name] + words))

    def define(self, name, text):
        """Adds a view with the query of a text; returns the rows that are given out at once."""
        check_name(name)
        check_free(self, name)
        query = parse_query(text, known_queries(self))
        view = View(query, self._streams)
        self._views[name] = view
        view.lines.append(len(self._bodies))
        self._bodies.append(f"define {name} {format_query(query)}")
        return view.outlet.give()

    def drop(self, name):
        """Removes a view and its subscribers."""
        view = known_view(self, name)
        for line in view.lines + [len(self._bodies)]:
            self._left_out[line] = True
        del self._views[name]
        for word in list(self._subscribers):
            if self._subscribers[word].view_name == name:
                del self._subscribers[word]
        self._bodies.append(f"drop {name}")

    def commit(self, events):
        """Performs events, all or none; returns a dict from the names of views to the rows that are given out."""
        check_events(self, events)
        happen_all(self, events)
        columns = columns_declared(self)
        texts = [event_text(columns, event) for event in events]
        self._bodies.append("commit " + "; ".join(texts) if texts else "commit")
        found = {}
        for name in sorted(self._views):
            rows = self._views[name].outlet.give()
            if rows:
                found[name] = rows
        return found

    def subscribe(self, name, view):
        """Adds a subscriber to a view."""
        check_name(name)
        if name in self._subscribers:
            raise NameTaken(name)
        known_view(self, view).lines.append(len(self._bodies))
        self._subscribers[name] = Subscriber(view)
        self._bodies.append(f"subscribe {name} {view}")

    def acknowledge(self, name, number):
        """A subscriber has received the first number rows of the view."""
        subscriber = known_subscriber(self, name)
        view = self._views[subscriber.view_name]
        if not is_number(number) or not subscriber.received <= number <= len(view.outlet.given):
            raise InvalidNumber(number)
        if subscriber.line is not None:
            self._left_out[subscriber.line] = True
        subscriber.received = number
        subscriber.line = len(self._bodies)
        view.lines.append(len(self._bodies))
        self._bodies.append(f"acknowledge {name} {number}")

    def pending(self, name):
        """Returns the pairs (position, row) of the rows that are out and not acknowledged, in order."""
        subscriber = known_subscriber(self, name)
        rows = self.out(subscriber.view_name)
        return list(enumerate(rows))[subscriber.received:]

    def streams(self):
        """Returns the names of the streams in ascending order."""
        return sorted(self._streams)

    def views(self):
        """Returns the names of the views in ascending order."""
        return sorted(self._views)

    def subscribers(self):
        """Returns the names of the subscribers in ascending order."""
        return sorted(self._subscribers)

    def stream_of(self, name):
        """Returns a copy of a stream."""
        if not isinstance(name, str) or name not in self._streams:
            raise UnknownStream(name)
        return self._streams[name].copy()

    def query_of(self, name):
        """Returns the query of a view."""
        return known_view(self, name).made

    def out(self, name):
        """Returns the rows of a view that are out, in the order in which they were given out."""
        return list(known_view(self, name).outlet.given)

    def waiting(self, name):
        """Returns the rows of the present result of a view that are not out, in ascending order."""
        return known_view(self, name).outlet.waiting()

    def journal(self):
        """Returns the journal."""
        return journal_text(self._bodies)

    @classmethod
    def recovered(cls, text):
        """Returns a hub that has performed the operations of all whole lines of a journal."""
        if not isinstance(text, str):
            raise InvalidText(text)
        hub = cls()
        for index, line in enumerate(text.split("\n")[:-1]):
            if not is_repeated(hub, line):
                raise DamagedJournal(index)
        return hub

    def as_of(self, number):
        """Returns a hub that has performed the first number operations of the journal."""
        if not is_number(number) or number > len(self._bodies):
            raise InvalidNumber(number)
        return Hub.recovered(journal_text(self._bodies[:number]))

    def compacted(self):
        """Returns a journal without lines that a hub does not need which is recovered from it."""
        return journal_text([body for index, body in enumerate(self._bodies) if index not in self._left_out])


def check_name(value):
    """Raises InvalidName if a value is not a word."""
    if not is_word(value):
        raise InvalidName(value)


def check_free(hub, name):
    """Raises NameTaken if a stream or a view has this name."""
    if name in hub._streams or name in hub._views:
        raise NameTaken(name)


def known_view(hub, name):
    """Returns the view of this name, or raises UnknownName."""
    if not isinstance(name, str) or name not in hub._views:
        raise UnknownName(name)
    return hub._views[name]


def known_subscriber(hub, name):
    """Returns the subscriber of this name, or raises UnknownName."""
    if not isinstance(name, str) or name not in hub._subscribers:
        raise UnknownName(name)
    return hub._subscribers[name]


def columns_declared(hub):
    """Returns a dict from the names of the streams to their columns."""
    return {name: stream.columns for name, stream in hub._streams.items()}


def known_queries(hub):
    """Returns a dict from the names of streams and views to queries."""
    found = {name: source(name, columns) for name, columns in columns_declared(hub).items()}
    for name, view in hub._views.items():
        found[name] = view.made
    return found


def check_events(hub, value):
    """Raises InvalidEvent if a value is not a list, or with its first element that is not an event."""
    if not isinstance(value, list):
        raise InvalidEvent(value)
    columns = columns_declared(hub)
    for event in value:
        check_event(columns, event)


def happen_all(hub, events):
    """Performs events on the streams, or none if one of them breaks a promise."""
    names = sorted({name for _, name, _ in events})
    later = {name: hub._streams[name].copy() for name in names}
    for event in events:
        happen(later, event)
    for name in names:
        hub._streams[name] = later[name]
    for kind, name, _ in events:
        for view in list(hub._views.values()):
            if kind == "row":
                view.outlet.state.row_came(name)
            else:
                view.outlet.state.promise_came(name)


def journal_text(bodies):
    """Returns the journal with lines of these bodies."""
    return "".join([line_text(number, body) + "\n" for number, body in enumerate(bodies)])


def line_text(number, body):
    """Returns a line of the journal, without the line feed behind it."""
    return f"{number} {len(body)} {body}"


def is_repeated(hub, line):
    """Performs the operation of a line of a journal; returns whether the journal of the hub gets this line."""
    number = len(hub._bodies)
    try:
        perform(hub, " ".join(line.split(" ")[2:]))
    except (StreamError, UnknownStream, BrokenPromise, MixedUse, UnknownName, NameTaken):
        return False
    return line_text(number, hub._bodies[number]) == line
