"""A small part of the world with a row of each kind, to compare boxes with sets of rows.

Bounds of numbers are at most LAST - 1, so LAST stands for all numbers from there on. Only
the words of NAMED stand in limits, so OTHER stands for all other words. NAMED are the two
words that are most easily taken for the mark of a limit.
"""

from itertools import product

from surestreams.boxes import Box

LAST = 4
NAMED = ("in", "not")
OTHER = "zebra"
MIXED = (("who", "word"), ("day", "number"))
BOUNDS = (None,) + tuple(range(LAST))

WORD_LIMITS = [
    (mark,) + words
    for mark in ("in", "not")
    for words in ((), NAMED[:1], NAMED[1:], NAMED)
]
NUMBER_LIMITS = [(least, greatest) for least in BOUNDS for greatest in BOUNDS]


def values(kind):
    """Returns a value of each kind that limits can tell apart."""
    return list(range(LAST + 1)) if kind == "number" else list(NAMED) + [OTHER]


def world(columns):
    """Returns a row of each kind that boxes can tell apart."""
    return list(product(*[values(kind) for _, kind in columns]))


def all_boxes(columns):
    """Returns the boxes of all limits within the small part of the world."""
    choices = [NUMBER_LIMITS if kind == "number" else WORD_LIMITS for _, kind in columns]
    names = [name for name, _ in columns]
    return [Box(columns, dict(zip(names, chosen))) for chosen in product(*choices)]


def random_box(columns, chance):
    """Returns a box of limits that a random source chooses, some of them left out."""
    limits = {}
    for name, kind in columns:
        if chance.random() < 0.7:
            limits[name] = chance.choice(NUMBER_LIMITS if kind == "number" else WORD_LIMITS)
    return Box(columns, limits)


def keeps(limit, value):
    """Returns whether a value keeps a limit, read word by word from the document."""
    if isinstance(limit, tuple) and isinstance(value, int):
        least, greatest = limit
        return (least is None or least <= value) and (greatest is None or value <= greatest)
    if isinstance(limit, tuple):
        return value in limit[1:] if limit[0] == "in" else value not in limit[1:]
    return value == limit


def rows_of(columns, limits):
    """Returns the rows of the small part of the world that keep all limits."""
    names = [name for name, _ in columns]
    return {
        row for row in world(columns)
        if all(keeps(limits[name], value) for name, value in zip(names, row) if name in limits)
    }


def rows_in(box):
    """Returns the rows of the small part of the world that are in a box."""
    return {row for row in world(box.columns) if row in box}
