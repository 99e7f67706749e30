"""Boxes: sets of rows, possibly infinite or empty, that are given by a limit for each column."""

from surestreams.columns import fits, is_columns
from surestreams.coverage import is_covered
from surestreams.errors import InvalidBox, InvalidColumns
from surestreams.spans import gaps, has, is_empty, is_limits, is_part, limits_of, merged_span
from surestreams.spans import row_number, shared, some_row_of, span_of, without


class Box:
    """The rows of some columns whose values keep all limits."""

    def __init__(self, columns, limits):
        if not is_columns(columns):
            raise InvalidColumns(columns)
        if not is_limits(columns, limits):
            raise InvalidBox(limits)
        self._columns = columns
        self._span = span_of(columns, limits)

    @property
    def columns(self):
        """The columns of the rows."""
        return self._columns

    def limits(self):
        """Returns the limits, in their one form, of the columns that do not allow all values."""
        return limits_of([name for name, _ in self._columns], self._span)

    def __contains__(self, row):
        """Returns whether any value is a row of the box."""
        return fits(self._columns, row) and has(self._span, row)

    def is_inside(self, other):
        """Returns whether each row of this box is in the other one."""
        check_like(self, other)
        return is_part(self._span, other._span)

    def __eq__(self, other):
        """Returns whether a value is a box with the same columns and the same rows."""
        if not is_like(self, other):
            return False
        return is_part(self._span, other._span) and is_part(other._span, self._span)

    def __and__(self, other):
        """Returns the box of the common rows."""
        check_like(self, other)
        return box_of(self._columns, shared(self._span, other._span))

    def __sub__(self, other):
        """Returns boxes without common rows, none of them empty: the rows that other does not have."""
        check_like(self, other)
        return [box_of(self._columns, span) for span in without(self._span, other._span)]

    def __bool__(self):
        """Returns whether the box has a row."""
        return not is_empty(self._span)

    def number(self):
        """Returns the number of rows, or None if it is infinite."""
        return row_number(self._span)

    def some_row(self):
        """Returns a row of the box, or None if it is empty."""
        return some_row_of(self._span)


def is_like(box, value):
    """Returns whether any value is a box of the same columns as a box."""
    return isinstance(value, Box) and value._columns == box._columns


def check_box(value):
    """Raises InvalidBox if a value is not a box."""
    if not isinstance(value, Box):
        raise InvalidBox(value)


def check_like(box, value):
    """Raises InvalidBox if a value is not a box of the same columns as a box."""
    if not is_like(box, value):
        raise InvalidBox(value)


def check_all_like(box, values):
    """Raises InvalidBox with the first value that is not a box of the same columns as a box."""
    for value in values:
        check_like(box, value)


def box_of(columns, span):
    """Returns the box with a span, whose limits need not be looked at again."""
    box = Box(columns, {})
    box._span = span
    return box


def covers(boxes, box):
    """Returns whether each row of the box is in one of the boxes."""
    check_box(box)
    check_all_like(box, boxes)
    return is_covered([each._span for each in boxes], box._span)


def uncovered(boxes, box):
    """Returns boxes without common rows, none of them empty: the rows that no one of the boxes has."""
    check_box(box)
    check_all_like(box, boxes)
    return [box_of(box._columns, span) for span in gaps([each._span for each in boxes], box._span)]


def merged(one, other):
    """Returns the box of the rows that one of the two has, or None if no box has just these."""
    check_box(one)
    check_like(one, other)
    span = merged_span(one._span, other._span)
    return None if span is None else box_of(one._columns, span)
