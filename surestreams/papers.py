"""Papers: which open rows could still remove a row of the present result, and why a row is sure."""

from surestreams.columns import fits, is_number
from surestreams.engine import state_now
from surestreams.errors import InvalidRow
from surestreams.streams import promise_number, with_promises
from surestreams.witnesses import rows_against


def removal(engine, row):
    """Returns open rows, none of which can be left out, after which a row of the result is gone, or None."""
    check_row(engine, row)
    state = state_now(engine)
    if not is_there(state, row) or state.is_sure(state.top, row):
        return None
    pairs = {pair: True for pair in rows_against(state, state.top, row)}
    return least_part(sorted(pairs), lambda part: is_gone(state, row, part))


def is_removal(engine, row, value):
    """Returns whether a value is a list of different open rows after which a row of the result is gone."""
    state = state_now(engine)
    if not fits(engine.query.columns, row) or not is_there(state, row):
        return False
    return are_different(value, is_open_pair, state) and is_gone(state, row, value)


def reasons(engine, row):
    """Returns promises, none of which can be left out, by which a row is sure, or None."""
    check_row(engine, row)
    state = state_now(engine)
    if not state.is_sure(state.top, row):
        return None
    return least_part(useful_promises(state), lambda part: suffice(state, row, part))


def is_reason(engine, row, value):
    """Returns whether a value is a list of different promises that are there, by which a row is sure."""
    state = state_now(engine)
    if not fits(engine.query.columns, row):
        return False
    return are_different(value, is_promise_pair, state) and suffice(state, row, value)


def check_row(engine, row):
    """Raises InvalidRow if a value is not a row of the query of an engine."""
    if not fits(engine.query.columns, row):
        raise InvalidRow(row)


def is_there(state, row):
    """Returns whether a row is in the present result."""
    return row in state.result(state.top)


def are_different(value, is_such, state):
    """Returns whether a value is a list of different values that are such in a state."""
    if not isinstance(value, list) or not all([is_such(state, part) for part in value]):
        return False
    return len(set(value)) == len(value)


def stream_in(state, value):
    """Returns the stream that is named first in a pair, or None if any value is no pair with such a name."""
    if not isinstance(value, tuple) or len(value) != 2 or not isinstance(value[0], str):
        return None
    return state.sources.get(value[0])


def is_open_pair(state, value):
    """Returns whether any value is a pair of the name of a stream and of an open row."""
    stream = stream_in(state, value)
    return stream is not None and fits(stream.columns, value[1]) and stream.is_open(value[1])


def is_promise_pair(state, value):
    """Returns whether any value is a pair of the name of a stream and of the index of a promise."""
    stream = stream_in(state, value)
    return stream is not None and is_number(value[1]) and value[1] < promise_number(stream)


def is_gone(state, row, pairs):
    """Returns whether a row is not in the result after open rows have come."""
    names = sorted({name for name, _ in pairs})
    later = {name: state.sources[name].copy() if name in names else state.sources[name] for name in state.sources}
    for name, new in pairs:
        later[name].add(new)
    return not is_there(state.over(later, names), row)


def useful_promises(state):
    """Returns the pairs (name, index) of all promises that may be a reason, in ascending order."""
    sides = state.steps[state.top].sides
    return [
        (name, index)
        for name in sorted(sides)
        if sides[name] == "take"
        for index in range(promise_number(state.sources[name]))
    ]


def suffice(state, row, pairs):
    """Returns whether a row is sure with some promises only."""
    streams = {}
    for name, stream in state.sources.items():
        streams[name] = with_promises(stream, [index for word, index in pairs if word == name])
    # Without promises there are the same rows.
    other = state.over(streams, [])
    return other.is_sure(other.top, row)


def least_part(values, is_enough):
    """Returns a part of a list of values that is enough, in the same order, but not without any of them.

    More values are always enough if fewer are. So a value that could not be left out cannot be
    left out later either, and it is quicker to try many at once.
    """
    kept = values
    many = len(values)
    while many > 0:
        start = 0
        while start < len(kept):
            rest = kept[:start] + kept[start + many:]
            if is_enough(rest):
                kept = rest
            else:
                start += many
        many = many // 2
    return kept
