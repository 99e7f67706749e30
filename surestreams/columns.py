"""Words, numbers, columns and rows: which values are such."""

from surestreams.errors import InvalidColumns

KINDS = ("word", "number")
MOST_COLUMNS = 6


def is_word(value):
    """Returns whether any value is a word."""
    return isinstance(value, str) and value.isascii() and value.isalpha() and value.islower()


def is_number(value):
    """Returns whether any value is a number."""
    return isinstance(value, int) and not isinstance(value, bool) and value >= 0


def is_column(value):
    """Returns whether any value is a pair of a name and a kind."""
    if not isinstance(value, tuple) or len(value) != 2:
        return False
    name, kind = value
    return is_word(name) and is_word(kind) and kind in KINDS


def is_columns(value):
    """Returns whether any value is columns."""
    if not isinstance(value, tuple) or not 1 <= len(value) <= MOST_COLUMNS:
        return False
    if not all([is_column(pair) for pair in value]):
        return False
    return len({name for name, _ in value}) == len(value)


def is_of_kind(kind, value):
    """Returns whether any value is a value of a column of this kind."""
    return is_number(value) if kind == "number" else is_word(value)


def fits(columns, value):
    """Returns whether any value is a row of columns that are known to be columns."""
    if not isinstance(value, tuple) or len(value) != len(columns):
        return False
    return all([is_of_kind(kind, part) for (_, kind), part in zip(columns, value)])


def is_row(columns, value):
    """Returns whether any value is a row of the columns."""
    if not is_columns(columns):
        raise InvalidColumns(columns)
    return fits(columns, value)
