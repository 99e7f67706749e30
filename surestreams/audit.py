"""Reports: what is given out and what waits after each event of a history, with papers for both."""

from surestreams.columns import fits
from surestreams.engine import Engine, performed, state_now
from surestreams.errors import BrokenPromise
from surestreams.events import check_event, columns_used, copied, happen, is_event
from surestreams.judging import is_shown
from surestreams.papers import is_gone, is_open_pair, removal
from surestreams.proving import showing
from surestreams.state import State
from surestreams.steps import steps_of
from surestreams.streams import Stream


def report(query, events):
    """Returns a list with a tuple (event, given, waiting) for each event of a list."""
    columns = columns_used(query)
    engine = Engine(query)
    found = []
    for event in events:
        check_event(columns, event)
        rows = performed(engine, event)
        state = state_now(engine)
        given = [(row, showing(state, state.top, row)) for row in rows]
        waiting = [(row, removal(engine, row)) for row in engine.waiting()]
        found.append((copied(event), given, waiting))
    return found


def is_report(query, value):
    """Returns whether any value is a report of a history: each entry is judged after its event."""
    if not isinstance(value, list) or not all([is_entry(query, entry) for entry in value]):
        return False
    streams = {name: Stream(name, columns) for name, columns in columns_used(query).items()}
    steps = steps_of(query)
    out = []
    for event, given, waiting in value:
        try:
            happen(streams, event)
        except BrokenPromise:
            return False
        out.extend([row for row, _ in given])
        if not is_true(State(steps, streams), out, given, waiting):
            return False
    return True


def is_entry(query, value):
    """Returns whether any value is a tuple of an event of a query and two lists of pairs of a row and a paper."""
    if not isinstance(value, tuple) or len(value) != 3:
        return False
    event, given, waiting = value
    if not is_event(columns_used(query), event):
        return False
    return are_papers(query, given) and are_papers(query, waiting)


def are_papers(query, value):
    """Returns whether any value is a list of pairs of a row of a query and any value."""
    if not isinstance(value, list) or not all([isinstance(pair, tuple) and len(pair) == 2 for pair in value]):
        return False
    return all([fits(query.columns, row) for row, _ in value])


def is_true(state, out, given, waiting):
    """Returns whether an entry is true, where out are all rows that were given out so far."""
    waits = [row for row, _ in waiting]
    if sorted(out + waits) != sorted(state.result(state.top)):
        return False
    if not all([is_shown(state, state.top, row, paper) for row, paper in given]):
        return False
    return all([is_removed(state, row, paper) for row, paper in waiting])


def is_removed(state, row, value):
    """Returns whether any value is a list of open rows after which a row is not in the result."""
    if not isinstance(value, list) or not all([is_open_pair(state, pair) for pair in value]):
        return False
    return is_gone(state, row, value)
