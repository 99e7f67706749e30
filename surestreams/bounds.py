"""Results: which rows of a query are there, are sure, or are possible."""

from surestreams.boxes import box_of
from surestreams.columns import fits
from surestreams.errors import InvalidRow, UnknownStream
from surestreams.queries import use_of
from surestreams.spans import has, is_empty, point, row_number
from surestreams.state import State
from surestreams.steps import steps_of
from surestreams.streams import Stream


def state_of(query, streams):
    """Returns the state of a query over streams, or raises UnknownStream."""
    for name in query.streams():
        stream = streams.get(name)
        if not isinstance(stream, Stream) or stream.columns != use_of(query, name)[1]:
            raise UnknownStream(name)
    return State(steps_of(query), streams)


def present(query, streams):
    """Returns the rows of the present result in ascending order."""
    state = state_of(query, streams)
    return sorted(state.result(state.top))


def sure(query, streams):
    """Returns the sure rows in ascending order."""
    return sure_rows(state_of(query, streams))


def sure_rows(state):
    """Returns the sure rows of the query of a state in ascending order."""
    return sorted([row for row in state.result(state.top) if state.is_sure(state.top, row)])


def are_all_possible(state, span, rows):
    """Returns whether all possible rows of a span are among some sure rows."""
    if is_empty(span):
        return True
    for piece in state.possible(state.top, span):
        if row_number(piece) != len([row for row in rows if has(piece, row)]):
            return False
    return True


def is_possible(query, streams, row):
    """Returns whether a row is possible."""
    state = state_of(query, streams)
    if not fits(query.columns, row):
        raise InvalidRow(row)
    return bool(state.possible(state.top, point(row)))


def possible_boxes(query, streams):
    """Returns boxes, none of them empty, that have together exactly the possible rows."""
    state = state_of(query, streams)
    region = state.possible(state.top, state.steps[state.top].whole)
    return [box_of(query.columns, span) for span in region]
