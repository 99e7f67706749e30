"""Groups: counts, sums, least and greatest values and first rows that no continuation changes.

A continuation may take away all rows that are not sure, and another one may add any possible
rows. So a value is sure if the sure rows have it, and no other possible row would change it.
"""

from surestreams.bounds import are_all_possible, state_of, sure_rows
from surestreams.columns import is_number
from surestreams.errors import InvalidQuery
from surestreams.limits import common
from surestreams.queries import is_selection
from surestreams.regions import changed, pick
from surestreams.spans import gaps, is_empty, point, row_number
from surestreams.steps import condition, places_in


def counts(query, streams, keys):
    """Returns a dict from the keys of groups to their sure numbers of rows."""
    state = state_of(query, streams)
    check_keys(query, keys)
    return {
        key: len(rows)
        for key, rows in groups_of(query, state, keys).items()
        if are_all_possible(state, group_span(query, state, keys, key), rows)
    }


def sums(query, streams, keys, column):
    """Returns a dict from the keys of groups to the sure sums of a number column."""
    state = state_of(query, streams)
    check_keys(query, keys)
    at = number_place(query, column)
    found = {}
    for key, rows in groups_of(query, state, keys).items():
        span = group_span(query, state, keys, key)
        # Rows with the value 0 may come and go.
        if are_all_possible(state, narrowed(span, at, ">", 0), rows):
            found[key] = sum([row[at] for row in rows])
    return found


def leasts(query, streams, keys, column):
    """Returns a dict from the keys of groups to the sure least values of a number column."""
    return ends_of_groups(query, streams, keys, column, "<")


def greatests(query, streams, keys, column):
    """Returns a dict from the keys of groups to the sure greatest values of a number column."""
    return ends_of_groups(query, streams, keys, column, ">")


def ends_of_groups(query, streams, keys, column, sign):
    """Returns a dict from keys to the sure values of a column than which no other one is < or >."""
    state = state_of(query, streams)
    check_keys(query, keys)
    at = number_place(query, column)
    found = {}
    for key, rows in groups_of(query, state, keys).items():
        values = [row[at] for row in rows]
        end = min(values) if sign == "<" else max(values)
        span = group_span(query, state, keys, key)
        if are_all_possible(state, narrowed(span, at, sign, end), rows):
            found[key] = end
    return found


def firsts(query, streams, column, number):
    """Returns the sure rows before which fewer than number rows stand in the result after all continuations."""
    state = state_of(query, streams)
    at = number_place(query, column)
    if not is_number(number):
        raise InvalidQuery(number)
    rows = sorted(sure_rows(state), key=lambda row: (row[at], row))
    # The greater its value, the more rows stand before a row; so the first rows stand in front.
    low = 0
    high = len(rows)
    while low < high:
        middle = (low + high) // 2
        if are_fewer_below(state, at, rows[middle][at], number):
            low = middle + 1
        else:
            high = middle
    return rows[:low]


def check_keys(query, keys):
    """Raises InvalidQuery if a value is not a tuple of different names of columns."""
    if not is_selection(query.columns, keys):
        raise InvalidQuery(keys)


def number_place(query, column):
    """Returns the position of a number column, or raises InvalidQuery if a value is no name of one."""
    if not isinstance(column, str) or (column, "number") not in query.columns:
        raise InvalidQuery(column)
    return places_in(query, [column])[0]


def groups_of(query, state, keys):
    """Returns a dict from the keys of groups to their sure rows, without groups that have none."""
    places = places_in(query, keys)
    groups = {}
    for row in sure_rows(state):
        groups.setdefault(pick(row, places), []).append(row)
    return groups


def group_span(query, state, keys, key):
    """Returns the span of all rows that belong to a group."""
    span = state.steps[state.top].whole
    for place, limit in zip(places_in(query, keys), point(key)):
        span = changed(span, place, limit)
    return span


def narrowed(span, at, sign, value):
    """Returns the span of the rows in which the value of a number column is < or > a value."""
    return changed(span, at, common(span[at], condition(sign, value)[0]))


def are_fewer_below(state, at, value, number):
    """Returns whether fewer than number possible rows have a smaller value in a column."""
    span = narrowed(state.steps[state.top].whole, at, "<", value)
    region = [] if is_empty(span) else state.possible(state.top, span)
    total = 0
    for index, one in enumerate(region):
        for piece in gaps(region[:index], one):
            many = row_number(piece)
            if many is None or total + many >= number:
                return False
            total += many
    return total < number
