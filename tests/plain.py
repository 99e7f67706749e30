"""Queries read word by word from the document, and queries, streams and events that are drawn.

Only the words of NAMED and numbers below FAR stand in drawn conditions and promises; OTHERS and
the numbers from FAR on stand for all others.
"""

from itertools import product
from random import Random

from surestreams.boxes import Box, uncovered
from surestreams.errors import InvalidQuery, MixedUse
from surestreams.queries import Query, source
from surestreams.streams import Stream

WORDS = (("a", "word"), ("b", "word"))
MIXED = (("a", "word"), ("n", "number"))
NUMBERS = (("n", "number"), ("m", "number"))
ONE = (("a", "word"),)
KINDS = (WORDS, MIXED, NUMBERS, ONE)
NAMED = ("a", "b", "in")
OTHERS = ("yy", "zz")
FAR = 4
NAMES = ("p", "q", "r", "s")
COMPARED = {
    "=": lambda one, other: one == other,
    "!=": lambda one, other: one != other,
    "<": lambda one, other: one < other,
    "<=": lambda one, other: one <= other,
    ">": lambda one, other: one > other,
    ">=": lambda one, other: one >= other,
}


class Rude:
    """A value that cannot be compared, measured or looked up."""

    __hash__ = None

    def __eq__(self, other):
        raise AssertionError("compared")

    def __len__(self):
        raise AssertionError("measured")


def closed_pairs(pairs):
    """Returns the pairs to which chains of one or more pairs lead."""
    found = set(pairs)
    while True:
        more = {(one, last) for one, other in found for first, last in pairs if other == first}
        if more <= found:
            return found
        found |= more


def joined_rows(one, names, other, others):
    """Returns the combinations of rows that agree in the columns of the same name."""
    found = set()
    for left, right in product(one, other):
        row = dict(zip(names, left))
        if all(row.get(name, value) == value for name, value in zip(others, right)):
            found.add(left + tuple(value for name, value in zip(others, right) if name not in names))
    return found


def evaluated(query, rows):
    """Returns the result of a query on a dict from names of streams to sets of rows."""
    kind, *rest = query.parts()
    if kind == "source":
        return set(rows[rest[0]])
    one = evaluated(rest[0], rows)
    names = [name for name, _ in rest[0].columns]
    if kind == "where":
        return {row for row in one if COMPARED[rest[2]](row[names.index(rest[1])], rest[3])}
    if kind == "columns":
        return {tuple(row[names.index(name)] for name in rest[1]) for row in one}
    if kind == "renamed":
        return one
    if kind == "closure":
        return closed_pairs(one)
    other = evaluated(rest[1], rows)
    if kind == "join":
        return joined_rows(one, names, other, [name for name, _ in rest[1].columns])
    return one | other if kind == "union" else one - other


def values(kind, more=False):
    """Returns a value of each kind that drawn conditions can tell apart; with more, several of the others."""
    if kind == "word":
        return list(NAMED + OTHERS + (("xx", "ww", "vv") if more else ()))
    return list(range(FAR + 2)) + ([8, 50, 10 ** 30] if more else [])


def world(columns, more=False):
    """Returns the rows of these values."""
    return list(product(*[values(kind, more) for _, kind in columns]))


def drawn_limits(chance, columns):
    """Returns limits that are drawn, for some of the columns."""
    limits = {}
    for name, kind in columns:
        mark, words = chance.choice(["in", "not", "not"]), chance.sample(NAMED, chance.randrange(3))
        bounds = (chance.choice([None, 0, 1, 2]), chance.choice([None, None, 1, 2, 3]))
        if chance.random() < 0.6:
            limits[name] = (mark, *words) if kind == "word" else bounds
    return limits


def drawn_sources(chance, kinds=KINDS):
    """Returns a source for each of NAMES, often all with the same columns."""
    columns = [chance.choice(kinds) for _ in NAMES]
    if chance.random() < 0.6:
        columns = [chance.choice(kinds)] * len(NAMES)
    return [source(name, each) for name, each in zip(NAMES, columns)]


def drawn_query(chance, sources, depth):
    """Returns a query of at most so many levels that is drawn; it has at most three columns."""
    if depth == 0:
        return chance.choice(sources)
    for _ in range(30):
        try:
            query = drawn_step(chance, sources, depth)
        except (InvalidQuery, MixedUse):
            continue
        if len(query.columns) <= 3:
            return query
    return chance.choice(sources)


def drawn_step(chance, sources, depth):
    """Returns a query that is made from drawn ones, or raises an error if they do not fit."""
    query = drawn_query(chance, sources, depth - 1)
    kind = chance.choice(["where", "columns", "renamed", "join", "union", "minus", "minus", "closure", "closure"])
    column, of_kind = chance.choice(query.columns)
    if kind == "where":
        signs = ["=", "!="] if of_kind == "word" else list(COMPARED)
        return query.where(column, chance.choice(signs), chance.choice(NAMED if of_kind == "word" else range(FAR)))
    if kind == "columns":
        names = [name for name, _ in query.columns]
        return query[tuple(chance.sample(names, chance.randrange(1, len(names) + 1)))]
    if kind == "renamed":
        return query.renamed(column, chance.choice("abnmxy"))
    if kind == "closure":
        return query.closure()
    other = drawn_query(chance, sources, chance.randrange(depth))
    if kind == "join":
        return query & (other.renamed(other.columns[0][0], chance.choice("abnmxy")) if chance.random() < 0.3 else other)
    return query | other if kind == "union" else query - other


def columns_of(query):
    """Returns a dict from the names of the streams of a query to their columns."""
    if query.parts()[0] == "source":
        return {query.parts()[1]: query.columns}
    found = {}
    for part in query.parts():
        if isinstance(part, Query):
            found.update(columns_of(part))
    return found


def drawn_streams(chance, query, rows=6, promises=4):
    """Returns a dict with the streams of a query, with fewer than so many rows and promises each."""
    streams = {}
    for name, columns in columns_of(query).items():
        stream = streams[name] = Stream(name, columns)
        for _ in range(chance.randrange(rows)):
            stream.add(chance.choice(world(columns)))
        for _ in range(chance.randrange(promises)):
            stream.promise(drawn_limits(chance, columns))
    return streams


def only_open(stream, rows):
    """Promises that no other rows than some will come."""
    names = [name for name, _ in stream.columns]
    boxes = [Box(stream.columns, dict(zip(names, row))) for row in rows]
    for box in uncovered(boxes, Box(stream.columns, {})):
        stream.promise(box.limits())


def few_open_streams(chance, query, most=4):
    """Returns a dict with the streams of a query, each with a few rows and fewer than most open rows."""
    streams = {}
    for name, columns in columns_of(query).items():
        stream = streams[name] = Stream(name, columns)
        rows = chance.sample(world(columns), min(5 + most, len(world(columns))))
        there = chance.randrange(6)
        for row in rows[:there]:
            stream.add(row)
        only_open(stream, rows[there:there + chance.randrange(most)])
    return streams


def now(query, streams):
    """Returns a dict from the names of the streams of a query to the sets of their rows."""
    return {name: set(streams[name].rows()) for name in query.streams()}


def later(query, streams, pairs):
    """Returns such a dict for the rows after the rows of some pairs (name, row) have come."""
    rows = now(query, streams)
    for name, row in pairs:
        rows[name].add(row)
    return rows


def open_pairs(query, streams, more=False):
    """Returns the pairs (name, row) of the open rows of the small part of the world."""
    return [
        (name, row) for name in query.streams() for row in world(streams[name].columns, more)
        if streams[name].is_open(row)
    ]


def all_results(query, streams):
    """Returns the results of a query after all sets of open rows of the small part of the world."""
    pairs = open_pairs(query, streams)
    found = []
    for mask in range(2 ** len(pairs)):
        chosen = [pair for at, pair in enumerate(pairs) if mask >> at & 1]
        found.append(evaluated(query, later(query, streams, chosen)))
    return found


def turned(query, streams, side):
    """Returns the rows after all open rows of one side have come, of a larger part of the world."""
    pairs = [pair for pair in open_pairs(query, streams, more=True) if query.side(pair[0]) == side]
    return later(query, streams, pairs)


def drawn_events(chance, query, number):
    """Returns a list of events of a query that break no promise; rows may be repeated."""
    streams = {name: Stream(name, columns) for name, columns in columns_of(query).items()}
    events = []
    for _ in range(number):
        name = chance.choice(sorted(streams))
        columns = streams[name].columns
        # Without most promises for adding, more rows come.
        if chance.random() < (0.85 if query.side(name) == "add" else 0.6):
            row = chance.choice(world(columns))
            if row in streams[name] or streams[name].is_open(row):
                streams[name].add(row)
                events.append(("row", name, row))
        else:
            limits = drawn_limits(chance, columns)
            streams[name].promise(limits)
            events.append(("promise", name, limits))
    return events


def drawn_history(seed, depth=5, number=20):
    """Returns a source of drawn values, a query and a list of its events."""
    chance = Random(seed)
    query = drawn_query(chance, drawn_sources(chance), depth)
    return (chance, query, drawn_events(chance, query, number))
