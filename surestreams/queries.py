"""Queries: how a result is made from the rows of streams."""

from surestreams.columns import MOST_COLUMNS, is_columns, is_of_kind, is_word
from surestreams.errors import InvalidColumns, InvalidQuery, MixedUse, UnknownStream

SIGNS = {"word": ("=", "!="), "number": ("=", "!=", "<", "<=", ">", ">=")}
OPPOSITE = {"add": "take", "take": "add"}


class Query:
    """A query, made by source or from other queries; it does not change.

    uses is a dict from the names of the used streams to pairs of a side and columns.
    """

    def __init__(self, parts, columns, uses):
        self._parts = parts
        self._columns = columns
        self._uses = uses

    @property
    def columns(self):
        """The columns of the result."""
        return self._columns

    def where(self, column, sign, value):
        """Returns the query of the rows in which the value of a column compares so with a value."""
        kinds = dict(self._columns)
        if not isinstance(column, str) or column not in kinds:
            raise InvalidQuery(column)
        if not isinstance(sign, str) or sign not in SIGNS[kinds[column]]:
            raise InvalidQuery(sign)
        if not is_of_kind(kinds[column], value):
            raise InvalidQuery(value)
        return Query(("where", self, column, sign, value), self._columns, self._uses)

    def __getitem__(self, names):
        """Returns the query of the rows reduced to some columns: a name, or a tuple of names."""
        chosen = (names,) if isinstance(names, str) else names
        if not is_selection(self._columns, chosen) or not chosen:
            raise InvalidQuery(names)
        kinds = dict(self._columns)
        columns = tuple([(name, kinds[name]) for name in chosen])
        return Query(("columns", self, chosen), columns, self._uses)

    # Otherwise Python would take a query for a list, as it has items.
    def __iter__(self):
        raise TypeError("a query is not iterated over")

    def renamed(self, old, new):
        """Returns the query in which the column old is called new."""
        names = [name for name, _ in self._columns]
        if not isinstance(old, str) or old not in names:
            raise InvalidQuery(old)
        if not is_word(new) or (new in names and new != old):
            raise InvalidQuery(new)
        columns = tuple([(new if name == old else name, kind) for name, kind in self._columns])
        return Query(("renamed", self, old, new), columns, self._uses)

    def __and__(self, other):
        """Returns the join."""
        check_query(other)
        columns = joined_columns(self, other)
        return Query(("join", self, other), columns, united_uses(self, other, other._uses))

    def __or__(self, other):
        """Returns the query of the rows of one of the two."""
        check_alike(self, other)
        return Query(("union", self, other), self._columns, united_uses(self, other, other._uses))

    def __sub__(self, other):
        """Returns the query of the rows of this query that are not rows of the other one."""
        check_alike(self, other)
        uses = united_uses(self, other, turned_uses(other))
        return Query(("minus", self, other), self._columns, uses)

    def closure(self):
        """Returns the query of the pairs of values from the first to the second of which a chain leads."""
        if len(self._columns) != 2 or self._columns[0][1] != self._columns[1][1]:
            raise InvalidQuery(self)
        return Query(("closure", self), self._columns, self._uses)

    def streams(self):
        """Returns the names of the used streams in ascending order."""
        return sorted(self._uses)

    def side(self, name):
        """Returns "add" or "take": for what a stream is used."""
        return use_of(self, name)[0]

    def parts(self):
        """Returns a tuple of a word for how the query was made, and of what it was made from."""
        return self._parts

    def __eq__(self, other):
        """Returns whether a value is a query that was made in the same way."""
        if not isinstance(other, Query):
            return False
        return self._columns == other._columns and self._parts == other._parts


def source(name, columns):
    """Returns the query whose result consists of the rows of a stream."""
    if not is_word(name):
        raise UnknownStream(name)
    if not is_columns(columns):
        raise InvalidColumns(columns)
    return Query(("source", name), columns, {name: ("add", columns)})


def is_selection(columns, value):
    """Returns whether any value is a tuple of different names of columns."""
    names = [name for name, _ in columns]
    if not isinstance(value, tuple) or not all([isinstance(name, str) and name in names for name in value]):
        return False
    return len(set(value)) == len(value)


def use_of(query, name):
    """Returns the side and the columns with which a query uses a stream, or raises UnknownStream."""
    if not isinstance(name, str) or name not in query._uses:
        raise UnknownStream(name)
    return query._uses[name]


def check_query(value):
    """Raises InvalidQuery if a value is not a query."""
    if not isinstance(value, Query):
        raise InvalidQuery(value)


def check_alike(query, value):
    """Raises InvalidQuery if a value is not a query with the same columns as a query."""
    check_query(value)
    if value._columns != query._columns:
        raise InvalidQuery(value)


def joined_columns(one, other):
    """Returns the columns of the join of two queries, or raises InvalidQuery."""
    kinds = dict(one._columns)
    if not all([kinds.get(name, kind) == kind for name, kind in other._columns]):
        raise InvalidQuery(other)
    columns = one._columns + tuple([pair for pair in other._columns if pair[0] not in kinds])
    if len(columns) > MOST_COLUMNS:
        raise InvalidQuery(other)
    return columns


def turned_uses(query):
    """Returns the uses of a query on the right side of a minus."""
    return {name: (OPPOSITE[side], columns) for name, (side, columns) in query._uses.items()}


def united_uses(one, other, uses):
    """Returns the uses of a query made of two; uses are those of the other one in it.

    Raises InvalidQuery, then MixedUse, if there is no such query.
    """
    common = sorted([name for name in uses if name in one._uses])
    for name in common:
        if uses[name][1] != one._uses[name][1]:
            raise InvalidQuery(other)
    for name in common:
        if uses[name][0] != one._uses[name][0]:
            raise MixedUse(name)
    return {**one._uses, **uses}


def queries_in(query):
    """Returns the queries, none, one or two, from which a query was made."""
    return [part for part in query._parts if isinstance(part, Query)]
