"""Events: tuples ("row", name, row) or ("promise", name, limits).

columns are dicts from the names of streams to their columns.
"""

from surestreams.boxes import Box
from surestreams.columns import fits
from surestreams.errors import InvalidEvent
from surestreams.formats import limits_text, row_text
from surestreams.queries import use_of
from surestreams.spans import is_limits


def columns_used(query):
    """Returns a dict from the names of the streams of a query to their columns."""
    return {name: use_of(query, name)[1] for name in query.streams()}


def is_event(columns, value):
    """Returns whether any value is an event of the streams."""
    if not isinstance(value, tuple) or len(value) != 3:
        return False
    kind, name, content = value
    if not isinstance(name, str) or name not in columns:
        return False
    # Any value may stand for the kind, but only strings are compared.
    if not isinstance(kind, str):
        return False
    if kind == "row":
        return fits(columns[name], content)
    return kind == "promise" and is_limits(columns[name], content)


def check_event(columns, value):
    """Raises InvalidEvent if a value is not an event of the streams."""
    if not is_event(columns, value):
        raise InvalidEvent(value)


def copied(event):
    """Returns an event that has no dict in common with an event."""
    kind, name, value = event
    if kind == "row":
        return event
    return (kind, name, {column: value[column] for column in value})


def happen(streams, event):
    """Performs an event on the stream that it names; streams is a dict from names to streams."""
    kind, name, value = event
    if kind == "row":
        streams[name].add(value)
    else:
        streams[name].promise(value)


def event_text(columns, event):
    """Returns the text of an event."""
    kind, name, value = event
    if kind == "row":
        return f"row {name} {row_text(value)}"
    return f"promise {name} {limits_text(columns[name], Box(columns[name], value).limits())}"
