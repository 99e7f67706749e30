"""Sure rows: how a row of the result of a step is sure by rows that are sure below it.

Rows that come later to a stream for adding only add rows to the result, and those of a stream for
taking away only take rows away; no stream is used for both. So a row is sure if it stays when all
open rows for taking away have come, and none for adding.
"""

from surestreams.regions import pick
from surestreams.relations import fulfils
from surestreams.spans import point


def sure_in_source(state, at, row):
    """A row of a stream is sure if it is there."""
    return row in state.result(at)


def sure_in_where(state, at, row):
    """A row of a where is sure if it fulfils the condition and is sure in the part."""
    step = state.steps[at]
    return fulfils(step, row) and state.is_sure(step.below[0], row)


def sure_in_columns(state, at, row):
    """A row is sure if one of the rows that are reduced to it is sure."""
    for wide in state.origins(at, row):
        if state.is_sure(state.steps[at].below[0], wide):
            return True
    return False


def sure_in_renamed(state, at, row):
    """A row is sure if it is sure in the part."""
    return state.is_sure(state.steps[at].below[0], row)


def sure_in_join(state, at, row):
    """A row of a join is sure if both rows that make it are sure."""
    one, other = state.steps[at].below
    left, right = halves(state, at, row)
    return state.is_sure(one, left) and state.is_sure(other, right)


def halves(state, at, values):
    """Returns the values, or limits, of a join for the columns of its two parts."""
    step = state.steps[at]
    width = len(state.steps[step.below[0]].whole)
    return (values[:width], pick(values, step.places))


def sure_in_union(state, at, row):
    """A row of a union is sure if it is sure in one part: no row of another stream makes up for it."""
    one, other = state.steps[at].below
    return state.is_sure(one, row) or state.is_sure(other, row)


def sure_in_minus(state, at, row):
    """A row of a minus is sure if it is sure in the first part and not possible in the second one."""
    one, other = state.steps[at].below
    return state.is_sure(one, row) and not state.possible(other, point(row))


def sure_in_closure(state, at, row):
    """A row of a closure is sure if a chain of sure rows leads from its first to its last value."""
    return row in state.sure_chains(at)


RULES = {
    "source": sure_in_source,
    "where": sure_in_where,
    "columns": sure_in_columns,
    "renamed": sure_in_renamed,
    "join": sure_in_join,
    "union": sure_in_union,
    "minus": sure_in_minus,
    "closure": sure_in_closure,
}


def found_sure(state, at, row):
    """Returns whether a row is sure in the result of a step."""
    rule = RULES[state.steps[at].kind]
    return rule(state, at, row)
