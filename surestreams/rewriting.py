"""Rewriting: rules by which a query becomes another one that gives out the same rows at the same events."""

from surestreams.queries import Query, queries_in

# The kinds of queries into which where moves, each with the number of the rule.
WHERE_RULES = {"union": 1, "minus": 2, "join": 3, "columns": 4}


def rewrites(query):
    """Yields (rule, path, result) for each rule that applies to the query or a part, by path, then rule."""
    for path, part in places(query, ()):
        for rule, made in changes(part):
            yield (rule, path, replaced(query, path, made))


def is_rewriting(value):
    """Returns whether any value is a list of queries, each next one made by a rule from the one before."""
    if not isinstance(value, list) or not value:
        return False
    if not all([isinstance(query, Query) for query in value]):
        return False
    return all([is_step(one, other) for one, other in zip(value, value[1:])])


def pushed(query):
    """Returns the query in which each condition stands as far inside as the rules 1 to 4 move it."""
    parts = query.parts()
    if parts[0] == "where":
        return pushed_condition(pushed(parts[1]), parts[2:])
    return remade(query, [pushed(part) for part in queries_in(query)])


def pushed_condition(query, condition):
    """Returns where of a pushed query and a condition, pushed."""
    if query.parts()[0] in WHERE_RULES:
        return moved_in(query, condition, pushed_condition)
    return with_condition(query, condition)


def with_condition(query, condition):
    """Returns where of a query and a condition: a tuple (column, sign, value)."""
    column, sign, value = condition
    return query.where(column, sign, value)


def moved_in(query, condition, put):
    """Returns the query in which a condition is put on those of its parts into which it moves."""
    inside = entered(query, condition)
    return remade(query, [
        put(part, condition) if at in inside else part for at, part in enumerate(queries_in(query))
    ])


def entered(query, condition):
    """Returns the indexes of the parts of a query into which a condition moves."""
    parts = query.parts()
    if parts[0] == "union":
        return [0, 1]
    if parts[0] == "join" and condition[0] not in dict(parts[1].columns):
        return [1]
    return [0]


def places(query, path):
    """Returns the pairs (path, part) of a query and all its parts, in ascending order; path is its own."""
    found = [(path, query)]
    for at, part in enumerate(queries_in(query)):
        found.extend(places(part, path + (at,)))
    return found


def changes(query):
    """Returns the pairs (rule, result) of the rules that apply to a query itself, in ascending order."""
    parts = query.parts()
    if parts[0] == "where":
        return changes_of_where(parts[1], parts[2:])
    if parts[0] == "columns":
        return changes_of_columns(parts[1], parts[2])
    if parts[0] == "minus":
        return changes_of_minus(parts[1], parts[2])
    if parts[0] == "union" and parts[1] == parts[2]:
        return [(9, parts[1])]
    return []


def changes_of_where(part, condition):
    """Returns the changes by the rules 1 to 4: the condition moves into a part."""
    kind = part.parts()[0]
    if kind not in WHERE_RULES:
        return []
    return [(WHERE_RULES[kind], moved_in(part, condition, with_condition))]


def changes_of_columns(part, names):
    """Returns the changes by the rules 5 and 6: of columns of columns, or of a union."""
    parts = part.parts()
    if parts[0] == "columns":
        return [(5, parts[1][names])]
    if parts[0] == "union":
        return [(6, parts[1][names] | parts[2][names])]
    return []


def changes_of_minus(one, other):
    """Returns the changes by the rules 7 and 8: of a minus with a union."""
    found = []
    if other.parts()[0] == "union":
        _, left, right = other.parts()
        found.append((7, (one - left) - right))
    if one.parts()[0] == "union":
        _, left, right = one.parts()
        found.append((8, (left - other) | (right - other)))
    return found


def remade(query, below):
    """Returns the query that is made in the same way from other parts."""
    parts = query.parts()
    if parts[0] == "where":
        return with_condition(below[0], parts[2:])
    if parts[0] == "columns":
        return below[0][parts[2]]
    if parts[0] == "renamed":
        return below[0].renamed(parts[2], parts[3])
    if parts[0] == "join":
        return below[0] & below[1]
    if parts[0] == "union":
        return below[0] | below[1]
    if parts[0] == "minus":
        return below[0] - below[1]
    return below[0].closure() if parts[0] == "closure" else query


def replaced(query, path, part):
    """Returns the query with another part at a path."""
    if not path:
        return part
    below = queries_in(query)
    below[path[0]] = replaced(below[path[0]], path[1:], part)
    return remade(query, below)


def is_step(one, other):
    """Returns whether a query arises from another one by a rule at some place."""
    for _, _, result in rewrites(one):
        if result == other:
            return True
    return False
