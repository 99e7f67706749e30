"""Witnesses: open rows after which a row is, or is not, in the result of a step.

All of them are rows of streams for taking away, in the whole query. When such rows come, the
results that they are added to only grow, and the others only shrink, so witnesses of several
steps may be put together.
"""

from surestreams.limits import allows, common, meet, some_value
from surestreams.possibility import widened
from surestreams.relations import ends, fulfils
from surestreams.spans import point, some_row_of
from surestreams.surety import halves


def against_in_source(_, at, row):
    """A row of a stream that is not sure is not there, and will not be."""
    return []


def against_in_where(state, at, row):
    """A row that does not fulfil the condition is not there."""
    step = state.steps[at]
    return rows_against(state, step.below[0], row) if fulfils(step, row) else []


def against_in_columns(state, at, row):
    """All rows that are reduced to the row have to go."""
    below = state.steps[at].below[0]
    found = []
    for wide in list(state.origins(at, row)):
        found.extend(rows_against(state, below, wide))
    return found


def against_in_renamed(state, at, row):
    """The row of the part has to go."""
    return rows_against(state, state.steps[at].below[0], row)


def against_in_join(state, at, row):
    """One of the rows that make the row has to go."""
    one, other = state.steps[at].below
    left, right = halves(state, at, row)
    if state.is_sure(one, left):
        return rows_against(state, other, right)
    return rows_against(state, one, left)


def against_in_union(state, at, row):
    """The row has to go in both parts."""
    one, other = state.steps[at].below
    return rows_against(state, one, row) + rows_against(state, other, row)


def against_in_minus(state, at, row):
    """The row has to come in the second part, or to go in the first one."""
    one, other = state.steps[at].below
    if state.possible(other, point(row)):
        return rows_for(state, other, row)
    return rows_against(state, one, row)


def against_in_closure(state, at, row):
    """All pairs have to go that lead away from the values to which sure chains lead from the first one."""
    below = state.steps[at].below[0]
    first, _ = row
    nexts = {}
    for one, other in state.result(below):
        if state.is_sure(below, (one, other)):
            nexts.setdefault(one, []).append(other)
    inside = {value: True for value in ends(nexts, first)}
    found = []
    for one, other in state.result(below):
        if (one == first or one in inside) and other not in inside:
            found.extend(rows_against(state, below, (one, other)))
    return found


AGAINST = {
    "source": against_in_source,
    "where": against_in_where,
    "columns": against_in_columns,
    "renamed": against_in_renamed,
    "join": against_in_join,
    "union": against_in_union,
    "minus": against_in_minus,
    "closure": against_in_closure,
}


def rows_against(state, at, row):
    """Returns pairs (name, row) of open rows after which a row that is not sure is not in the result."""
    rule = AGAINST[state.steps[at].kind]
    return rule(state, at, row)


def for_in_source(state, at, row):
    """The row has to come, unless it is there."""
    return [] if row in state.result(at) else [(state.steps[at].word, row)]


def for_in_part(state, at, row):
    """The row has to come in the part."""
    return rows_for(state, state.steps[at].below[0], row)


def for_in_columns(state, at, row):
    """A row that is reduced to the row has to come."""
    below = state.steps[at].below[0]
    region = state.possible(below, widened(state, at, point(row)))
    return rows_for(state, below, some_row_of(region[0]))


def for_in_join(state, at, row):
    """Both rows that make the row have to come."""
    one, other = state.steps[at].below
    left, right = halves(state, at, row)
    return rows_for(state, one, left) + rows_for(state, other, right)


def for_in_union(state, at, row):
    """The row has to come in one part."""
    one, other = state.steps[at].below
    return rows_for(state, one if state.possible(one, point(row)) else other, row)


def for_in_minus(state, at, row):
    """The row has to come in the first part, and to go in the second one."""
    one, other = state.steps[at].below
    return rows_for(state, one, row) + rows_against(state, other, row)


def for_in_closure(state, at, row):
    """All pairs of a chain have to come."""
    step = state.steps[at]
    found = []
    for pair in chain_through(state.possible(step.below[0], step.whole), row[0], row[1]):
        found.extend(rows_for(state, step.below[0], pair))
    return found


FOR = {
    "source": for_in_source,
    "where": for_in_part,
    "columns": for_in_columns,
    "renamed": for_in_part,
    "join": for_in_join,
    "union": for_in_union,
    "minus": for_in_minus,
    "closure": for_in_closure,
}


def rows_for(state, at, row):
    """Returns pairs (name, row) of open rows after which a possible row is in the result."""
    rule = FOR[state.steps[at].kind]
    return rule(state, at, row)


def chain_through(spans, first, last):
    """Returns the pairs of a chain from first to last, each in one of the spans of pairs."""
    before = {at: None for at, span in enumerate(spans) if allows(span[0], first)}
    reached = list(before)
    done = 0
    while not allows(spans[reached[done]][1], last):
        limit = spans[reached[done]][1]
        for at, span in enumerate(spans):
            if at not in before and meet(limit, span[0]):
                before[at] = reached[done]
                reached.append(at)
        done += 1
    values = [last]
    at = reached[done]
    while before[at] is not None:
        values.append(some_value(common(spans[before[at]][1], spans[at][0])))
        at = before[at]
    values = [first] + values[::-1]
    return list(zip(values, values[1:]))
