"""A second judge of certificates, read word by word from the document, with boxes and lists of rows."""

from surestreams.boxes import Box, covers
from tests.plain import COMPARED

ALL = {"word": ("not",), "number": (0, None)}
ABOVE, BELOW = (lambda value: (value + 1, None)), (lambda value: (0, value - 1) if value else (1, 0))


def is_tuple(value, word, length):
    """Returns whether any value is a tuple of this length that begins with this word."""
    return type(value) is tuple and len(value) == length and type(value[0]) is str and value[0] == word


def is_a_row(columns, value):
    """Returns whether any value is a row of the columns."""
    if type(value) is not tuple or len(value) != len(columns):
        return False
    return all(type(each) is (int if kind == "number" else str) for each, (_, kind) in zip(value, columns))


def place(query, name):
    """Returns the position of a column."""
    return [each for each, _ in query.columns].index(name)


def half(query, part, row):
    """Returns the row of a part that is in a row of a join."""
    return tuple(row[place(query, name)] for name, _ in part.columns)


def certifies(query, streams, row, value):
    """Returns whether any value is a certificate that a row of the query is sure."""
    kind, *rest = query.parts()
    if kind == "source":
        return is_tuple(value, "row", 1) and row in streams[rest[0]].rows()
    if kind == "where":
        fulfilled = COMPARED[rest[2]](row[place(query, rest[1])], rest[3])
        return is_tuple(value, "where", 2) and fulfilled and certifies(rest[0], streams, row, value[1])
    if kind == "columns":
        if not is_tuple(value, "columns", 3) or not is_a_row(rest[0].columns, value[1]):
            return False
        reduced = tuple(value[1][place(rest[0], name)] for name in rest[1])
        return reduced == row and certifies(rest[0], streams, value[1], value[2])
    if kind == "renamed":
        return is_tuple(value, "renamed", 2) and certifies(rest[0], streams, row, value[1])
    if kind == "join":
        return is_tuple(value, "join", 3) and all(
            certifies(part, streams, half(query, part, row), paper) for part, paper in zip(rest, value[1:])
        )
    if kind == "union":
        return any(is_tuple(value, word, 2) and certifies(part, streams, row, value[1]) for word, part in zip(("first", "second"), rest))
    if kind == "minus":
        if not is_tuple(value, "minus", 3) or not certifies(rest[0], streams, row, value[1]):
            return False
        point = Box(query.columns, {name: each for (name, _), each in zip(query.columns, row)})
        return excludes(rest[1], streams, point, value[2])
    return is_tuple(value, "chain", 3) and is_chain(rest[0], streams, row, value[1], value[2])


def is_chain(part, streams, row, pairs, papers):
    """Returns whether pairs, with papers, lead from the first to the last value of a row."""
    if type(pairs) is not tuple or type(papers) is not tuple or not pairs or len(pairs) != len(papers):
        return False
    at = row[0]
    for pair, paper in zip(pairs, papers):
        if not is_a_row(part.columns, pair) or pair[0] != at or not certifies(part, streams, pair, paper):
            return False
        at = pair[1]
    return at == row[1]


def limit_of(box, at):
    """Returns the limit of a column of a box."""
    name, kind = box.columns[at]
    return box.limits().get(name, ALL[kind])


def conditions(sign, value):
    """Returns the limits of the values that fulfil a condition."""
    if isinstance(value, str):
        return [("in" if sign == "=" else "not", value)]
    return {
        "=": [value], "<": [BELOW(value)], ">": [ABOVE(value)], "<=": [(0, value)], ">=": [(value, None)],
        "!=": [BELOW(value), ABOVE(value)] if value else [ABOVE(value)],
    }[sign]


def is_box(columns, value):
    """Returns whether any value is a dict of limits of the columns."""
    try:
        Box(columns, value)
    except ValueError:
        return False
    return True


def excludes(query, streams, box, value):
    """Returns whether any value is a certificate that no row of a box of the query is possible."""
    if is_tuple(value, "empty", 1):
        return not box
    if is_tuple(value, "split", 2):
        pairs = value[1]
        if type(pairs) is not tuple or not all(type(pair) is tuple and len(pair) == 2 and is_box(query.columns, pair[0]) for pair in pairs):
            return False
        boxes = [Box(query.columns, limits) for limits, _ in pairs]
        return covers(boxes, box) and all(excludes(query, streams, box & each, paper) for each, (_, paper) in zip(boxes, pairs))
    kind, *rest = query.parts()
    rule = {"source": closed, "where": fulfilled_nowhere, "minus": less, "closure": cut_off}
    if kind in rule:
        return rule[kind](query, streams, box, value)
    if kind == "columns":
        return is_tuple(value, "columns", 2) and excludes(rest[0], streams, Box(rest[0].columns, box.limits()), value[1])
    if kind == "renamed":
        limits = {rest[1] if name == rest[2] else name: limit for name, limit in box.limits().items()}
        return is_tuple(value, "renamed", 2) and excludes(rest[0], streams, Box(rest[0].columns, limits), value[1])
    if kind == "union":
        return is_tuple(value, "union", 3) and all(excludes(part, streams, box, paper) for part, paper in zip(rest, value[1:]))
    for word, part in zip(("left", "right"), rest):
        if is_tuple(value, word, 2):
            names = [name for name, _ in part.columns]
            limits = {name: limit for name, limit in box.limits().items() if name in names}
            return excludes(part, streams, Box(part.columns, limits), value[1])
    return False


def closed(query, streams, box, value):
    """The promises of a source cover the box, in which no row is."""
    if not is_tuple(value, "closed", 2) or type(value[1]) is not tuple:
        return False
    stream = streams[query.parts()[1]]
    promises = stream.promises()
    if not all(type(index) is int and 0 <= index < len(promises) for index in value[1]):
        return False
    return not any(row in box for row in stream.rows()) and covers([promises[index] for index in value[1]], box)


def fulfilled_nowhere(query, streams, box, value):
    """No row of the box fulfils the condition."""
    _, part, column, sign, bound = query.parts()
    boxes = [box & Box(query.columns, {column: limit}) for limit in conditions(sign, bound)]
    if not is_tuple(value, "where", 2) or type(value[1]) is not tuple or len(value[1]) != len(boxes):
        return False
    return all(excludes(part, streams, each, paper) for each, paper in zip(boxes, value[1]))


def less(query, streams, box, value):
    """No row of the box is possible in the first part, or the only one is sure in the second part."""
    _, one, other = query.parts()
    if is_tuple(value, "first", 2):
        return excludes(one, streams, box, value[1])
    return is_tuple(value, "sure", 2) and box.number() == 1 and certifies(other, streams, box.some_row(), value[1])


def cut_off(query, streams, box, value):
    """No pair leads from the first limit, or from inside, to outside."""
    (first, kind), (second, _) = query.columns
    if not is_tuple(value, "cut", 4) or not all(type(each) is tuple for each in value[1:]):
        return False
    _, inside, outside, papers = value
    column = ((first, kind),)
    if not all(is_box(column, {first: limit}) for limit in inside + outside):
        return False
    last = Box(column, {first: limit_of(box, 1)})
    if not covers([Box(column, {first: limit}) for limit in inside + outside], Box(column, {})):
        return False
    if any(Box(column, {first: limit}) & last for limit in inside):
        return False
    part = query.parts()[1]
    pairs = [(one, other) for one in (limit_of(box, 0),) + inside for other in outside]
    return len(papers) == len(pairs) and all(
        excludes(part, streams, Box(part.columns, {first: one, second: other}), paper) for (one, other), paper in zip(pairs, papers)
    )
