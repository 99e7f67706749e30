"""Making certificates: of sure rows, and of spans without possible rows."""

from surestreams.limits import all_united, common, everything, meet, outside
from surestreams.possibility import widened
from surestreams.regions import changed, pick, tidy, without_rows
from surestreams.spans import gaps, has, is_empty, limits_of, point, row_number
from surestreams.streams import closing_promises
from surestreams.surety import halves


def showing_in_source(_, at, row):
    """The row is there."""
    return ("row",)


def showing_in_where(state, at, row):
    """The row is sure in the part."""
    return ("where", showing(state, state.steps[at].below[0], row))


def showing_in_columns(state, at, row):
    """A row that is reduced to the row is sure in the part."""
    below = state.steps[at].below[0]
    sure = [wide for wide in state.origins(at, row) if state.is_sure(below, wide)]
    return ("columns", sure[0], showing(state, below, sure[0]))


def showing_in_renamed(state, at, row):
    """The row is sure in the part."""
    return ("renamed", showing(state, state.steps[at].below[0], row))


def showing_in_join(state, at, row):
    """Both rows that make the row are sure."""
    one, other = state.steps[at].below
    left, right = halves(state, at, row)
    return ("join", showing(state, one, left), showing(state, other, right))


def showing_in_union(state, at, row):
    """The row is sure in one part."""
    one, other = state.steps[at].below
    if state.is_sure(one, row):
        return ("first", showing(state, one, row))
    return ("second", showing(state, other, row))


def showing_in_minus(state, at, row):
    """The row is sure in the first part and not possible in the second one."""
    one, other = state.steps[at].below
    return ("minus", showing(state, one, row), excluding(state, other, point(row)))


def showing_in_closure(state, at, row):
    """A chain of sure rows leads from the first to the last value."""
    below = state.steps[at].below[0]
    pairs = sure_chain(state, below, row)
    return ("chain", pairs, tuple([showing(state, below, pair) for pair in pairs]))


def sure_chain(state, at, row):
    """Returns a tuple of sure pairs, as few as can be, that lead from the first to the last value of a row."""
    nexts = {}
    for pair in sorted(state.result(at)):
        if state.is_sure(at, pair):
            nexts.setdefault(pair[0], []).append(pair)
    before = {}
    tasks = [row[0]]
    while row[1] not in before:
        found = []
        for value in tasks:
            for pair in nexts.get(value, []):
                if pair[1] not in before:
                    before[pair[1]] = pair
                    found.append(pair[1])
        tasks = found
    pairs = [before[row[1]]]
    while pairs[-1][0] != row[0]:
        pairs.append(before[pairs[-1][0]])
    return tuple(pairs[::-1])


SHOWING = {
    "source": showing_in_source,
    "where": showing_in_where,
    "columns": showing_in_columns,
    "renamed": showing_in_renamed,
    "join": showing_in_join,
    "union": showing_in_union,
    "minus": showing_in_minus,
    "closure": showing_in_closure,
}


def showing(state, at, row):
    """Returns a certificate of a row that is sure in the result of a step."""
    rule = SHOWING[state.steps[at].kind]
    return rule(state, at, row)


def excluding_in_source(state, at, span):
    """Promises cover the span."""
    return ("closed", closing_promises(state.sources[state.steps[at].word], span))


def excluding_in_where(state, at, span):
    """No row of the span that fulfils the condition is possible in the part."""
    step = state.steps[at]
    place = step.places[0]
    spans = [changed(span, place, common(span[place], limit)) for limit in step.limits_there]
    return ("where", tuple([excluding(state, step.below[0], part) for part in spans]))


def excluding_in_columns(state, at, span):
    """No row that is reduced to one of the span is possible in the part."""
    return ("columns", excluding(state, state.steps[at].below[0], widened(state, at, span)))


def excluding_in_renamed(state, at, span):
    """No row of the span is possible in the part."""
    return ("renamed", excluding(state, state.steps[at].below[0], span))


def excluding_in_join(state, at, span):
    """No row is possible in one of the parts, or the span is split so that this holds everywhere."""
    one, other = state.steps[at].below
    left, right = halves(state, at, span)
    lefts = state.possible(one, left)
    if not lefts:
        return ("left", excluding(state, one, left))
    rights = state.possible(other, right)
    if not rights:
        return ("right", excluding(state, other, right))
    return split_paper(state, at, join_pieces(state.steps[at], span, lefts, rights))


def join_pieces(step, span, lefts, rights):
    """Returns spans that cover a span of a join, in each of which no row of one part is possible.

    Where one part has a possible row, the other one has none with the same values in the common
    columns.
    """
    places = [place for _, place in step.pairs]
    common_span = pick(span, places)
    choices = []
    for region in (
        [pick(piece, places) for piece in lefts], [pick(piece, [at for at, _ in step.pairs]) for piece in rights],
    ):
        narrow = tidy(region)
        choices.append(narrow + gaps(narrow, common_span))
    return [put_back(span, places, piece) for piece in min(choices, key=len)]


def put_back(span, places, limits):
    """Returns the span with other limits at some places."""
    for place, limit in zip(places, limits):
        span = changed(span, place, limit)
    return span


def excluding_in_union(state, at, span):
    """No row of the span is possible in the parts."""
    one, other = state.steps[at].below
    return ("union", excluding(state, one, span), excluding(state, other, span))


def excluding_in_minus(state, at, span):
    """No row of the span is possible in the first part, but for rows that are sure in the second one."""
    one, other = state.steps[at].below
    region = state.possible(one, span)
    if not region:
        return ("first", excluding(state, one, span))
    rows = [row for row in state.result(other) if is_in_region(region, row)]
    if row_number(span) == 1:
        return ("sure", showing(state, other, rows[0]))
    return split_paper(state, at, [point(row) for row in sorted(rows)] + without_rows(span, rows))


def is_in_region(region, row):
    """Returns whether a row is in one of the spans of a region."""
    return any([has(piece, row) for piece in region])


def excluding_in_closure(state, at, span):
    """A set of values that holds the ends of all chains from the span, and no last value of it."""
    step = state.steps[at]
    below = step.below[0]
    kind = step.shape[0][1]
    region = state.possible(below, state.steps[below].whole)
    ends = all_united(ends_from(region, span[0], 0))
    starts = all_united([span[1]] + ends_from(region, span[1], 1))
    choices = [(ends, remaining(kind, ends)), (remaining(kind, starts), starts)]
    inside, beyond = min(choices, key=lambda choice: (1 + len(choice[0])) * len(choice[1]))
    papers = [excluding(state, below, (one, other)) for one in [span[0]] + inside for other in beyond]
    return ("cut", tuple(inside), tuple(beyond), tuple(papers))


def ends_from(region, limit, side):
    """Returns the limits, on the other side, of the pairs of chains that have a limit's value on this side."""
    found = []
    reached = {}
    tasks = [limit]
    while tasks:
        near = tasks.pop()
        for at, piece in enumerate(region):
            if at not in reached and meet(near, piece[side]):
                reached[at] = True
                found.append(piece[1 - side])
                tasks.append(piece[1 - side])
    return found


def remaining(kind, limits):
    """Returns limits of different values: together, of all values that some limits do not allow."""
    found = [everything(kind)]
    for limit in limits:
        found = [part for piece in found for part in outside(piece, limit)]
    return found


EXCLUDING = {
    "source": excluding_in_source,
    "where": excluding_in_where,
    "columns": excluding_in_columns,
    "renamed": excluding_in_renamed,
    "join": excluding_in_join,
    "union": excluding_in_union,
    "minus": excluding_in_minus,
    "closure": excluding_in_closure,
}


def excluding(state, at, span):
    """Returns a certificate that no row of a span is possible in the result of a step."""
    if is_empty(span):
        return ("empty",)
    rule = EXCLUDING[state.steps[at].kind]
    return rule(state, at, span)


def split_paper(state, at, spans):
    """Returns a certificate for a span that these spans, all inside it, cover."""
    names = [name for name, _ in state.steps[at].shape]
    return ("split", tuple([(limits_of(names, part), excluding(state, at, part)) for part in spans]))
