"""Texts of rows and limits, and rows and limits from texts."""

from surestreams.boxes import Box
from surestreams.columns import is_columns, is_row, is_word
from surestreams.errors import InvalidColumns, InvalidRow, InvalidText
from surestreams.limits import is_of_words


def format_row(columns, row):
    """Returns the text of a row."""
    if not is_row(columns, row):
        raise InvalidRow(row)
    return row_text(row)


def format_limits(columns, limits):
    """Returns the text of limits."""
    return limits_text(columns, Box(columns, limits).limits())


def parse_row(columns, text):
    """Returns the row with this text."""
    check_columns(columns)
    return found_in(text, read_row(columns, text))


def parse_limits(columns, text):
    """Returns the limits with this text."""
    check_columns(columns)
    return found_in(text, read_limits(columns, text))


def check_columns(value):
    """Raises InvalidColumns if a value is not columns."""
    if not is_columns(value):
        raise InvalidColumns(value)


def found_in(text, value):
    """Returns the value that was read from a text, or raises InvalidText if it is None."""
    if value is None:
        raise InvalidText(text)
    return value


def row_text(row):
    """Returns the text of a row that is known to be one."""
    return " ".join([str(value) for value in row])


def limits_text(columns, limits):
    """Returns the text of limits as a box tells them."""
    words = [limit_text(name, limits[name]) for name, _ in columns if name in limits]
    return " ".join(words) if words else "*"


def limit_text(name, limit):
    """Returns the text of a limit, in its one form, of a column."""
    if is_of_words(limit):
        return name + ("=" if limit[0] == "in" else "!") + ",".join(limit[1:])
    least, greatest = limit
    return f"{name}={least}.." + ("" if greatest is None else str(greatest))


def lines_text(lines):
    """Returns the text of some lines, none of them empty, or "-" if there are none."""
    return "\n".join(lines) if lines else "-"


def rows_text(rows):
    """Returns the text of some rows, one per line."""
    return lines_text([row_text(row) for row in rows])


def is_number_text(text):
    """Returns whether a text is that of a number."""
    if not text.isascii() or not text.isdigit():
        return False
    return text == "0" or not text.startswith("0")


def read_value(kind, text):
    """Returns the value with this text of a column of this kind, or None."""
    if kind == "number":
        return int(text) if is_number_text(text) else None
    return text if is_word(text) else None


def read_row(columns, text):
    """Returns the row with this text, or None for any value that is not such a text."""
    words = text.split(" ") if isinstance(text, str) else []
    if len(words) != len(columns):
        return None
    row = tuple([read_value(kind, word) for (_, kind), word in zip(columns, words)])
    return None if None in row else row


def read_limits(columns, text):
    """Returns the limits with this text, or None for any value that is not such a text."""
    if not isinstance(text, str):
        return None
    limits = {}
    kinds = dict(columns)
    for word in [] if text == "*" else text.split(" "):
        name, sign, rest = parted_at_sign(word)
        limit = read_limit(kinds[name], sign, rest) if name in kinds else None
        if limit is None:
            return None
        limits[name] = limit
    # One text only stands for limits: that which is written for them.
    told = Box(columns, limits).limits()
    return told if limits_text(columns, told) == text else None


def parted_at_sign(word):
    """Returns the name, the sign and the rest of the text of a limit."""
    return word.partition("=" if "=" in word else "!")


def read_limit(kind, sign, rest):
    """Returns the limit of a column of this kind that has this text behind the name, or None."""
    if kind == "number":
        return read_range(rest) if sign == "=" else None
    words = rest.split(",") if rest else []
    if not all([is_word(word) for word in words]):
        return None
    return ("in" if sign == "=" else "not",) + tuple(words)


def read_range(text):
    """Returns the limit of numbers with this text, or None."""
    least, _, greatest = text.partition("..")
    if not is_number_text(least) or (greatest and not is_number_text(greatest)):
        return None
    return (int(least), int(greatest) if greatest else None)
