"""Certificates: papers that show that a row is sure, or that no row of a box is possible."""

from surestreams.bounds import are_all_possible, state_of, sure_rows
from surestreams.columns import fits
from surestreams.errors import InvalidBox, InvalidRow
from surestreams.judging import is_excluded, is_shown
from surestreams.proving import excluding, showing
from surestreams.spans import has, is_empty, is_limits, span_of


def certificate(query, streams, row):
    """Returns a certificate of a sure row, or None if the row is not sure."""
    state = state_of(query, streams)
    if not fits(query.columns, row):
        raise InvalidRow(row)
    return showing(state, state.top, row) if state.is_sure(state.top, row) else None


def is_certificate(query, streams, row, value):
    """Returns whether any value is a certificate that a row is sure; the row may be any value, too."""
    state = state_of(query, streams)
    return fits(query.columns, row) and is_shown(state, state.top, row, value)


def exclusion(query, streams, limits):
    """Returns a certificate that no row of the box with these limits is possible, or None if one is."""
    state = state_of(query, streams)
    span = checked_span(query, limits)
    if not is_empty(span) and state.possible(state.top, span):
        return None
    return excluding(state, state.top, span)


def is_exclusion(query, streams, limits, value):
    """Returns whether any value is a certificate that no row of the box with these limits is possible."""
    state = state_of(query, streams)
    return is_excluded(state, state.top, checked_span(query, limits), value)


def is_settled(query, streams, limits):
    """Returns whether each possible row of the box with these limits is sure."""
    state = state_of(query, streams)
    span = checked_span(query, limits)
    return are_all_possible(state, span, [row for row in sure_rows(state) if has(span, row)])


def checked_span(query, limits):
    """Returns the span with these limits, or raises InvalidBox."""
    if not is_limits(query.columns, limits):
        raise InvalidBox(limits)
    return span_of(query.columns, limits)
