"""Regions: sets of rows as lists of spans, none of them empty.

The spans of a region may have common rows.
"""

from surestreams.limits import all_united, common, is_void, left_over, meet, only
from surestreams.spans import is_inside

# Looking for spans inside others compares each span with each other one.
MOST_COMPARED = 400


def pick(values, places):
    """Returns the values, or limits, at some places."""
    return tuple([values[at] for at in places])


def changed(span, at, limit):
    """Returns the span with another limit of one column."""
    return span[:at] + (limit,) + span[at + 1:]


def tidy(spans):
    """Returns a region of the same rows that has, as a rule, fewer spans."""
    if len(spans) < 2:
        return spans
    found = list({span: True for span in spans})
    for at in range(len(found[0])):
        found = united_along(found, at)
    return outermost(found) if len(found) <= MOST_COMPARED else found


def united_along(spans, at):
    """Returns a region of the same rows: spans that differ in one column only are put together."""
    groups = {}
    for span in spans:
        groups.setdefault(changed(span, at, None), []).append(span[at])
    return [
        changed(others, at, limit)
        for others, limits in groups.items()
        for limit in all_united(limits)
    ]


def outermost(spans):
    """Returns the spans that are inside no other one, of spans no two of which have the same rows."""
    return [span for span in spans if not is_inside_another(span, spans)]


def is_inside_another(span, spans):
    """Returns whether a span is inside a different one."""
    for other in spans:
        if is_inside(span, other) and span != other:
            return True
    return False


def without_rows(span, rows):
    """Returns spans without common rows: the rows of a span but some different rows of it."""
    # A column with few values leaves few spans, so it goes first.
    order = sorted(range(len(span)), key=lambda at: len({row[at] for row in rows}))
    return parted(span, rows, order)


def parted(span, rows, order):
    """Returns spans as without_rows does, where the rows agree in all columns that are not in order."""
    if not rows:
        return [span]
    if not order:
        return []
    at = order[0]
    groups = {}
    for row in rows:
        groups.setdefault(row[at], []).append(row)
    found = [changed(span, at, limit) for limit in left_over(span[at], list(groups))]
    for value in sorted(groups):
        limit = ("in", value) if isinstance(value, str) else (value, value)
        found.extend(parted(changed(span, at, limit), groups[value], order[1:]))
    return found


def joined(lefts, rights, pairs, extra):
    """Returns the region of all rows that are put together from rows of two regions.

    They agree in pairs of columns of rights and of lefts; extra are the other columns of rights.
    """
    by_value = sorted_in(rights, pairs[0][0]) if pairs else {}
    found = []
    for left in lefts:
        near = partners(left[pairs[0][1]], rights, by_value) if pairs else rights
        for right in near:
            span = joint(left, right, pairs)
            if span:
                found.append(span + pick(right, extra))
    return found


def sorted_in(spans, at):
    """Returns a dict from values to the spans that allow only this value in a column; None for the rest."""
    groups = {None: []}
    for span in spans:
        groups.setdefault(only(span[at]), []).append(span)
    return groups


def partners(limit, spans, by_value):
    """Returns the spans that may allow a value of the limit in the column by which they are sorted."""
    value = only(limit)
    if value is None:
        return spans
    return by_value[None] + by_value.get(value, [])


def joint(left, right, pairs):
    """Returns the left span with the common limits of pairs of columns, or () if one of them is void."""
    span = left
    for at, place in pairs:
        limit = common(left[place], right[at])
        if is_void(limit):
            return ()
        span = changed(span, place, limit)
    return span


def chained(spans):
    """Returns the region of the pairs to which chains of rows of a region of pairs lead."""
    reached = reach(spans)
    found = []
    for one, mask in zip(spans, reached):
        ends = [other[1] for at, other in enumerate(spans) if mask >> at & 1]
        found.extend([(one[0], limit) for limit in all_united(ends)])
    return found


def reach(spans):
    """Returns for each span of pairs the mask of those in which a chain that begins in it may end."""
    masks = []
    for at, one in enumerate(spans):
        nexts = [1 << to for to, other in enumerate(spans) if meet(one[1], other[0])]
        masks.append(sum(nexts) | 1 << at)
    for middle in range(len(masks)):
        through = masks[middle]
        masks = [mask | through if mask >> middle & 1 else mask for mask in masks]
    return masks
