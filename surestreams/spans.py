"""Spans: the limits of a box as a tuple with one limit, in its one form, for each column.

Two spans that meet here have the same columns.
"""

from surestreams.limits import allows, common, everything, is_everything, is_limit, is_void, is_within
from surestreams.limits import meet, one_form, outside, size, some_value, united


def is_limits(columns, value):
    """Returns whether any value is a dict from names of columns to limits of them."""
    if not isinstance(value, dict):
        return False
    kinds = dict(columns)
    # Any value may stand as a key, but only strings are looked up.
    return all([
        isinstance(name, str) and name in kinds and is_limit(kinds[name], limit)
        for name, limit in value.items()
    ])


def span_of(columns, limits):
    """Returns the span with the limits of a dict."""
    return tuple([
        one_form(kind, limits[name]) if name in limits else everything(kind)
        for name, kind in columns
    ])


def limits_of(names, span):
    """Returns a dict from the names of columns to their limits, but those that allow all values."""
    return {name: limit for name, limit in zip(names, span) if not is_everything(limit)}


def whole(columns):
    """Returns the span of all rows of the columns."""
    return tuple([everything(kind) for _, kind in columns])


def point(row):
    """Returns the span of one row."""
    return tuple([one_form("word" if isinstance(value, str) else "number", value) for value in row])


def has(span, row):
    """Returns whether a row of the columns keeps all limits."""
    for limit, value in zip(span, row):
        if not allows(limit, value):
            return False
    return True


def is_empty(span):
    """Returns whether no row keeps all limits."""
    return any([is_void(limit) for limit in span])


def is_part(one, other):
    """Returns whether each row of one is in other."""
    return is_empty(one) or is_inside(one, other)


def is_inside(one, other):
    """Returns whether each row of one, which is not empty, is in other."""
    for limit, bound in zip(one, other):
        if not is_within(limit, bound):
            return False
    return True


def touch(one, other):
    """Returns whether two spans that are not empty have a common row."""
    for limit, bound in zip(one, other):
        if not meet(limit, bound):
            return False
    return True


def shared(one, other):
    """Returns the span of the common rows."""
    return tuple([common(limit, bound) for limit, bound in zip(one, other)])


def without(one, other):
    """Returns spans without common rows, none of them empty: together, the rows of only one."""
    both = shared(one, other)
    if is_empty(both):
        return [] if is_empty(one) else [one]
    found = []
    for at in range(len(one)):
        for limit in outside(one[at], other[at]):
            found.append(both[:at] + (limit,) + one[at + 1:])
    return found


def gaps(spans, span, most=None):
    """Returns spans as without does: the rows of a span that are in none of the spans.

    With most, not more than so many of them are looked for.
    """
    if is_empty(span):
        return []
    found = []
    tasks = [(span, [other for other in spans if not is_empty(other)])]
    while tasks and (most is None or len(found) < most):
        piece, others = tasks.pop()
        near = [other for other in others if touch(piece, other)]
        if not near:
            found.append(piece)
            continue
        # The span that leaves the fewest pieces goes first, as each piece is cut again.
        rests = [without(piece, other) for other in near]
        tasks.extend([(rest, near) for rest in min(rests, key=len)])
    return found


def merged_span(one, other):
    """Returns the span of the rows that one of the two has, or None if there is none."""
    if is_part(one, other):
        return other
    if is_part(other, one):
        return one
    # As neither is inside the other, a box of both would, if two columns differ, have a row
    # with a value that only one allows and another value that only other allows.
    places = [at for at in range(len(one)) if one[at] != other[at]]
    if len(places) != 1:
        return None
    at = places[0]
    limit = united(one[at], other[at])
    return None if limit is None else one[:at] + (limit,) + one[at + 1:]


def row_number(span):
    """Returns the number of rows, or None if it is infinite."""
    sizes = [size(limit) for limit in span]
    if 0 in sizes:
        return 0
    if None in sizes:
        return None
    number = 1
    for many in sizes:
        number = number * many
    return number


def some_row_of(span):
    """Returns a row that keeps all limits, or None if there is none."""
    return None if is_empty(span) else tuple([some_value(limit) for limit in span])
