"""Steps: the parts of a query in the order in which they are evaluated, with positions for names."""

from surestreams.queries import queries_in
from surestreams.spans import whole


class Step:
    """One part of a query; below are the indexes of the steps of the parts from which it was made.

    shape are the columns; limits_there are the limits of the values that fulfil a condition.
    places are, for where and columns, the positions of the named columns in the part; for a join
    those of the columns of the second part in the query. Of these, pairs are (position in the
    second part, position in the first part), and extra are the positions, in the second part, of
    the columns that the first one does not have.
    """

    def __init__(self, query, below):
        parts = query.parts()
        self.kind = parts[0]
        self.below = below
        self.shape = query.columns
        self.whole = whole(query.columns)
        self.sides = {name: query.side(name) for name in query.streams()}
        self.word = parts[1] if self.kind == "source" else None
        self.limits_there = condition(parts[3], parts[4]) if self.kind == "where" else []
        self.places = places_of(query)
        width = len(parts[1].columns) if self.kind == "join" else 0
        self.pairs = [(at, place) for at, place in enumerate(self.places) if place < width]
        self.extra = [at for at, place in enumerate(self.places) if place >= width]


def steps_of(query):
    """Returns the list of the steps of a query, each behind those below it."""
    found = []
    append_steps(found, query)
    return found


def append_steps(found, query):
    """Appends the steps of a query to a list; returns the index of the last one, that of the query."""
    below = [append_steps(found, part) for part in queries_in(query)]
    found.append(Step(query, below))
    return len(found) - 1


def places_of(query):
    """Returns the places of the step of a query."""
    parts = query.parts()
    if parts[0] == "where":
        return places_in(parts[1], [parts[2]])
    if parts[0] == "columns":
        return places_in(parts[1], parts[2])
    if parts[0] == "join":
        return places_in(query, [name for name, _ in parts[2].columns])
    return []


def places_in(query, names):
    """Returns the positions of columns of these names."""
    places = {name: at for at, (name, _) in enumerate(query.columns)}
    return [places[name] for name in names]


def condition(sign, value):
    """Returns limits of different values: together, of the values that compare so with a value.

    There are two for numbers that are smaller or greater, and else there is one. It is void if there
    is no such value.
    """
    if isinstance(value, str):
        return [("in", value)] if sign == "=" else [("not", value)]
    below = [(0, value - 1)] if value > 0 else []
    above = [(value + 1, None)]
    same = [(value, value)]
    if sign == "=":
        return same
    if sign == "!=":
        return below + above
    if sign == "<":
        return below if below else [(1, 0)]
    if sign == ">":
        return above
    return [(0, value)] if sign == "<=" else [(value, None)]
