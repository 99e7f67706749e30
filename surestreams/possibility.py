"""Possible rows: the region of a span of which the rows are possible in the result of a step.

They are the rows that are there when all open rows for adding have come, and none for taking away.
"""

from surestreams.limits import common, is_void
from surestreams.regions import chained, changed, joined, pick, tidy, without_rows
from surestreams.spans import has, shared, touch
from surestreams.streams import reachable
from surestreams.surety import halves


def possible_in_source(state, at, span):
    """The rows of a stream that are there or may come."""
    return reachable(state.sources[state.steps[at].word], span)


def possible_in_where(state, at, span):
    """The possible rows of the part that fulfil the condition."""
    step = state.steps[at]
    place = step.places[0]
    found = []
    for limit in step.limits_there:
        both = common(span[place], limit)
        if not is_void(both):
            found.extend(state.possible(step.below[0], changed(span, place, both)))
    return found


def possible_in_columns(state, at, span):
    """The possible rows of the part, reduced."""
    step = state.steps[at]
    return tidy([pick(wide, step.places) for wide in state.possible(step.below[0], widened(state, at, span))])


def widened(state, at, span):
    """Returns the span of the rows that are reduced to those of a span."""
    step = state.steps[at]
    wide = state.steps[step.below[0]].whole
    for place, limit in zip(step.places, span):
        wide = changed(wide, place, limit)
    return wide


def possible_in_renamed(state, at, span):
    """The possible rows of the part."""
    return state.possible(state.steps[at].below[0], span)


def possible_in_join(state, at, span):
    """The combinations of possible rows."""
    step = state.steps[at]
    left, right = halves(state, at, span)
    lefts = state.possible(step.below[0], left)
    if not lefts:
        return []
    return tidy(joined(lefts, state.possible(step.below[1], right), step.pairs, step.extra))


def possible_in_union(state, at, span):
    """The rows that are possible in one of the parts."""
    one, other = state.steps[at].below
    return tidy(state.possible(one, span) + state.possible(other, span))


def possible_in_minus(state, at, span):
    """The possible rows of the first part without the sure rows of the second one."""
    one, other = state.steps[at].below
    pieces = state.possible(one, span)
    if not pieces:
        return []
    rows = [row for row in state.result(other) if has(span, row) and state.is_sure(other, row)]
    found = []
    for piece in pieces:
        found.extend(without_rows(piece, [row for row in rows if has(piece, row)]))
    return tidy(found)


def possible_in_closure(state, at, span):
    """The pairs to which chains of possible rows lead, which may pass all values."""
    step = state.steps[at]
    if span == step.whole:
        return tidy(chained(state.possible(step.below[0], step.whole)))
    pieces = [piece for piece in state.possible(at, step.whole) if touch(piece, span)]
    return tidy([shared(piece, span) for piece in pieces])


RULES = {
    "source": possible_in_source,
    "where": possible_in_where,
    "columns": possible_in_columns,
    "renamed": possible_in_renamed,
    "join": possible_in_join,
    "union": possible_in_union,
    "minus": possible_in_minus,
    "closure": possible_in_closure,
}


def found_possible(state, at, span):
    """Returns the region of the possible rows of a span, which is not empty, in the result of a step."""
    rule = RULES[state.steps[at].kind]
    return rule(state, at, span)
