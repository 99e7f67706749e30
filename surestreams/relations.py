"""Relations: finite sets of rows as dicts of True, and how those of the parts make that of a query.

A relation that was returned is not changed any more.
"""

from surestreams.limits import allows
from surestreams.regions import pick


def relation(rows):
    """Returns the relation of some rows."""
    return {row: True for row in rows}


def fulfils(step, row):
    """Returns whether a row fulfils the condition of a where."""
    value = row[step.places[0]]
    return any([allows(limit, value) for limit in step.limits_there])


def rows_of_where(step, below):
    """Returns the rows of a part that fulfil a condition."""
    return relation([row for row in below[0] if fulfils(step, row)])


def rows_of_columns(step, below):
    """Returns the rows of a part reduced to some columns."""
    return relation([pick(row, step.places) for row in below[0]])


def rows_of_renamed(_, below):
    """Returns the rows of a part, as the names of the columns do not stand in them."""
    return below[0]


def rows_of_join(step, below):
    """Returns the combinations of rows of two parts that agree in the common columns."""
    keys = [at for at, _ in step.pairs]
    places = [place for _, place in step.pairs]
    rests = {}
    for row in below[1]:
        rests.setdefault(pick(row, keys), []).append(pick(row, step.extra))
    return relation([row + rest for row in below[0] for rest in rests.get(pick(row, places), [])])


def rows_of_union(_, below):
    """Returns the rows of one of two parts."""
    return {**below[0], **below[1]}


def rows_of_minus(_, below):
    """Returns the rows of the first part that are not rows of the second one."""
    return relation([row for row in below[0] if row not in below[1]])


def rows_of_closure(_, below):
    """Returns the pairs of values from the first to the second of which a chain leads."""
    return chains(below[0])


def chains(pairs):
    """Returns the relation of the pairs from the first to the last value of a chain of pairs."""
    nexts = {}
    for first, last in pairs:
        nexts.setdefault(first, []).append(last)
    return relation([(first, last) for first in nexts for last in ends(nexts, first)])


def ends(nexts, first):
    """Returns the values at which chains end that begin with a value; nexts are those of one pair."""
    found = {}
    tasks = list(nexts.get(first, []))
    while tasks:
        value = tasks.pop()
        if value not in found:
            found[value] = True
            tasks.extend(nexts.get(value, []))
    return list(found)


RULES = {
    "where": rows_of_where,
    "columns": rows_of_columns,
    "renamed": rows_of_renamed,
    "join": rows_of_join,
    "union": rows_of_union,
    "minus": rows_of_minus,
    "closure": rows_of_closure,
}


def rows_of_step(step, below):
    """Returns the result of a step that is no source, from the results of the steps below it."""
    rule = RULES[step.kind]
    return rule(step, below)
