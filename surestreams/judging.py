"""Judging certificates: they are compared with the steps of a query and with streams; nothing is evaluated.

Any value may stand where a certificate, or a part of one, should stand. If the papers for the parts
of a query are true, so is that for the query; so whatever is accepted is true.
"""

from surestreams.columns import fits, is_number
from surestreams.coverage import is_covered
from surestreams.limits import common, everything, is_limit, is_void, one_form
from surestreams.possibility import widened
from surestreams.regions import changed, pick
from surestreams.relations import fulfils
from surestreams.spans import is_empty, is_limits, point, row_number, shared, some_row_of, span_of
from surestreams.streams import is_closed_by, promise_number
from surestreams.surety import halves


def is_form(value, word, length):
    """Returns whether any value is a tuple of this length that begins with a word."""
    if not isinstance(value, tuple) or len(value) != length:
        return False
    return isinstance(value[0], str) and value[0] == word


def shown_in_source(state, at, row, value):
    """A row of a stream is sure if it is there."""
    return is_form(value, "row", 1) and row in state.sources[state.steps[at].word]


def shown_in_where(state, at, row, value):
    """A row of a where is sure if it fulfils the condition and is sure in the part."""
    step = state.steps[at]
    return is_form(value, "where", 2) and fulfils(step, row) and is_shown(state, step.below[0], row, value[1])


def shown_in_columns(state, at, row, value):
    """A row is sure if a row is sure that is reduced to it."""
    step = state.steps[at]
    below = step.below[0]
    if not is_form(value, "columns", 3) or not fits(state.steps[below].shape, value[1]):
        return False
    return pick(value[1], step.places) == row and is_shown(state, below, value[1], value[2])


def shown_in_renamed(state, at, row, value):
    """A row is sure if it is sure in the part."""
    return is_form(value, "renamed", 2) and is_shown(state, state.steps[at].below[0], row, value[1])


def shown_in_join(state, at, row, value):
    """A row of a join is sure if both rows that make it are sure."""
    if not is_form(value, "join", 3):
        return False
    one, other = state.steps[at].below
    left, right = halves(state, at, row)
    return is_shown(state, one, left, value[1]) and is_shown(state, other, right, value[2])


def shown_in_union(state, at, row, value):
    """A row of a union is sure if it is sure in one part."""
    one, other = state.steps[at].below
    if is_form(value, "first", 2):
        return is_shown(state, one, row, value[1])
    return is_form(value, "second", 2) and is_shown(state, other, row, value[1])


def shown_in_minus(state, at, row, value):
    """A row of a minus is sure if it is sure in the first part and not possible in the second one."""
    if not is_form(value, "minus", 3):
        return False
    one, other = state.steps[at].below
    return is_shown(state, one, row, value[1]) and is_excluded(state, other, point(row), value[2])


def shown_in_closure(state, at, row, value):
    """A row of a closure is sure if a chain of sure rows leads from its first to its last value."""
    if not is_form(value, "chain", 3):
        return False
    _, pairs, papers = value
    below = state.steps[at].below[0]
    if not is_chain(state.steps[below].shape, pairs, row) or not are_as_many(papers, len(pairs)):
        return False
    return all([is_shown(state, below, pair, paper) for pair, paper in zip(pairs, papers)])


SHOWN = {
    "source": shown_in_source,
    "where": shown_in_where,
    "columns": shown_in_columns,
    "renamed": shown_in_renamed,
    "join": shown_in_join,
    "union": shown_in_union,
    "minus": shown_in_minus,
    "closure": shown_in_closure,
}


def is_shown(state, at, row, value):
    """Returns whether any value is a certificate that a row is sure in the result of a step."""
    rule = SHOWN[state.steps[at].kind]
    return rule(state, at, row, value)


def are_as_many(value, number):
    """Returns whether any value is a tuple of so many values."""
    return isinstance(value, tuple) and len(value) == number


def is_chain(shape, value, row):
    """Returns whether any value is a tuple of pairs of this shape that lead from the first to the last of a row."""
    if not isinstance(value, tuple) or not value:
        return False
    if not all([fits(shape, pair) for pair in value]):
        return False
    ends = [row[0]] + [last for _, last in value]
    return ends[-1] == row[1] and [first for first, _ in value] == ends[:-1]


def excluded_in_source(state, at, span, value):
    """No row of the span is there, and promises cover it."""
    if not is_form(value, "closed", 2) or not isinstance(value[1], tuple):
        return False
    stream = state.sources[state.steps[at].word]
    many = promise_number(stream)
    if not all([is_number(index) and index < many for index in value[1]]):
        return False
    return is_closed_by(stream, value[1], span)


def excluded_in_where(state, at, span, value):
    """No row of the span is possible in the part that fulfils the condition."""
    step = state.steps[at]
    place = step.places[0]
    spans = [changed(span, place, common(span[place], limit)) for limit in step.limits_there]
    return is_form(value, "where", 2) and are_all_excluded(state, step.below[0], spans, value[1])


def excluded_in_columns(state, at, span, value):
    """No row that is reduced to one of the span is possible in the part."""
    below = state.steps[at].below[0]
    return is_form(value, "columns", 2) and is_excluded(state, below, widened(state, at, span), value[1])


def excluded_in_renamed(state, at, span, value):
    """No row of the span is possible in the part."""
    return is_form(value, "renamed", 2) and is_excluded(state, state.steps[at].below[0], span, value[1])


def excluded_in_join(state, at, span, value):
    """No row for the columns of one part is possible in this part."""
    one, other = state.steps[at].below
    left, right = halves(state, at, span)
    if is_form(value, "left", 2):
        return is_excluded(state, one, left, value[1])
    return is_form(value, "right", 2) and is_excluded(state, other, right, value[1])


def excluded_in_union(state, at, span, value):
    """No row of the span is possible in the parts."""
    if not is_form(value, "union", 3):
        return False
    one, other = state.steps[at].below
    return is_excluded(state, one, span, value[1]) and is_excluded(state, other, span, value[2])


def excluded_in_minus(state, at, span, value):
    """No row of the span is possible in the first part, or its only row is sure in the second one."""
    one, other = state.steps[at].below
    if is_form(value, "first", 2):
        return is_excluded(state, one, span, value[1])
    if not is_form(value, "sure", 2) or row_number(span) != 1:
        return False
    return is_shown(state, other, some_row_of(span), value[1])


def excluded_in_closure(state, at, span, value):
    """A chain that begins in the span stays inside, and one that ends in the span does not end inside."""
    if not is_form(value, "cut", 4):
        return False
    below = state.steps[at].below[0]
    kind = state.steps[at].shape[0][1]
    if not are_limits(kind, value[1]) or not are_limits(kind, value[2]):
        return False
    inside = [one_form(kind, limit) for limit in value[1]]
    outside = [one_form(kind, limit) for limit in value[2]]
    if not is_covered([(limit,) for limit in inside + outside], (everything(kind),)):
        return False
    if not all([is_void(common(limit, span[1])) for limit in inside]):
        return False
    spans = [(one, other) for one in [span[0]] + inside for other in outside]
    return are_all_excluded(state, below, spans, value[3])


def are_limits(kind, value):
    """Returns whether any value is a tuple of limits of columns of a kind."""
    return isinstance(value, tuple) and all([is_limit(kind, limit) for limit in value])


def are_all_excluded(state, at, spans, value):
    """Returns whether any value is a tuple of certificates that no row of these spans, in order, is possible."""
    if not are_as_many(value, len(spans)):
        return False
    return all([is_excluded(state, at, span, paper) for span, paper in zip(spans, value)])


EXCLUDED = {
    "source": excluded_in_source,
    "where": excluded_in_where,
    "columns": excluded_in_columns,
    "renamed": excluded_in_renamed,
    "join": excluded_in_join,
    "union": excluded_in_union,
    "minus": excluded_in_minus,
    "closure": excluded_in_closure,
}


def is_excluded(state, at, span, value):
    """Returns whether any value is a certificate that no row of a span is possible in the result of a step."""
    if is_form(value, "empty", 1):
        return is_empty(span)
    if is_form(value, "split", 2):
        return is_split(state, at, span, value[1])
    rule = EXCLUDED[state.steps[at].kind]
    return rule(state, at, span, value)


def is_split(state, at, span, value):
    """Returns whether any value is a tuple of pairs of limits and certificates for what they share with a span."""
    shape = state.steps[at].shape
    if not isinstance(value, tuple) or not all([are_as_many(part, 2) for part in value]):
        return False
    if not all([is_limits(shape, limits) for limits, _ in value]):
        return False
    spans = [span_of(shape, limits) for limits, _ in value]
    if not is_covered(spans, span):
        return False
    papers = tuple([paper for _, paper in value])
    return are_all_excluded(state, at, [shared(span, other) for other in spans], papers)
