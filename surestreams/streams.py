"""Streams: rows that have come, and promises that no further row of some box will come."""

from surestreams.boxes import box_of
from surestreams.columns import fits, is_columns, is_word
from surestreams.coverage import is_covered
from surestreams.errors import BrokenPromise, InvalidBox, InvalidColumns, InvalidRow, UnknownStream
from surestreams.regions import tidy, without_rows
from surestreams.spans import gaps, has, is_empty, is_limits, is_part, point, shared, span_of


class Stream:
    """The rows that have come, and the promises, in the order in which they were made."""

    def __init__(self, name, columns):
        if not is_word(name):
            raise UnknownStream(name)
        if not is_columns(columns):
            raise InvalidColumns(columns)
        self._name = name
        self._columns = columns
        self._there = {}
        self._kept = []

    @property
    def name(self):
        """The name of the stream."""
        return self._name

    @property
    def columns(self):
        """The columns of the rows."""
        return self._columns

    def add(self, row):
        """Adds a row; returns whether it is new."""
        check_row(self, row)
        if row in self._there:
            return False
        for index, span in enumerate(self._kept):
            if has(span, row):
                raise BrokenPromise(index)
        self._there[row] = True
        return True

    def promise(self, limits):
        """Adds the promise that no further row of the box with these limits will come."""
        self._kept.append(checked_span(self, limits))
        return len(self._kept) - 1

    def rows(self):
        """Returns the rows in ascending order."""
        return sorted(self._there)

    def promises(self):
        """Returns the promised boxes, in order."""
        return [box_of(self._columns, span) for span in self._kept]

    def __contains__(self, row):
        """Returns whether any value is a row that is there."""
        return fits(self._columns, row) and row in self._there

    def is_open(self, row):
        """Returns whether a row may still come."""
        check_row(self, row)
        return row not in self._there and not is_promised(self, row)

    def closed(self, limits):
        """Returns whether no row of the box with these limits is open."""
        span = checked_span(self, limits)
        # Of more pieces without common rows than there are rows, one has an open row.
        return not open_spans(self, span, len(self._there) + 1)

    def open_boxes(self, limits):
        """Returns boxes without common rows: the open rows of the box with these limits."""
        return [box_of(self._columns, span) for span in open_spans(self, checked_span(self, limits))]

    def superfluous(self):
        """Returns the indexes of the promises that all the others together cover, in ascending order."""
        return [
            index for index, span in enumerate(self._kept)
            if is_covered(self._kept[:index] + self._kept[index + 1:], span)
        ]

    def copy(self):
        """Returns an independent stream with the same rows and promises."""
        return with_promises(self, list(range(len(self._kept))))

    def __len__(self):
        """Returns the number of rows."""
        return len(self._there)


def check_row(stream, value):
    """Raises InvalidRow if a value is not a row of the columns of a stream."""
    if not fits(stream._columns, value):
        raise InvalidRow(value)


def checked_span(stream, limits):
    """Returns the span with these limits, or raises InvalidBox."""
    if not is_limits(stream._columns, limits):
        raise InvalidBox(limits)
    return span_of(stream._columns, limits)


def is_promised(stream, row):
    """Returns whether a row is in a promised box."""
    return any([has(span, row) for span in stream._kept])


def is_closed_by(stream, indexes, span):
    """Returns whether no row of a span is there, and promises with these indexes cover it."""
    if any([has(span, row) for row in stream._there]):
        return False
    different = {index: True for index in indexes}
    return is_covered([stream._kept[index] for index in different], span)


def closing_promises(stream, span):
    """Returns the indexes of promises that cover a span that all promises cover: of one, if one is enough."""
    for index, kept in enumerate(stream._kept):
        if is_part(span, kept):
            return (index,)
    return tuple([index for index, kept in enumerate(stream._kept) if not is_empty(shared(span, kept))])


def promise_number(stream):
    """Returns the number of the promises."""
    return len(stream._kept)


def open_spans(stream, span, most=None):
    """Returns spans without common rows: the open rows of a span.

    With most, not more than so many pieces of the span that no promise covers are looked at.
    """
    found = []
    for piece in gaps(stream._kept, span, most):
        found.extend(without_rows(piece, [row for row in stream._there if has(piece, row)]))
    return found


def reachable(stream, span):
    """Returns the region of the rows of a span that are there or may still come."""
    rows = [row for row in stream.rows() if has(span, row) and is_promised(stream, row)]
    return tidy(gaps(stream._kept, span) + [point(row) for row in rows])


def with_promises(stream, indexes):
    """Returns an independent stream with the same rows, and with the promises of these indexes only."""
    other = Stream(stream._name, stream._columns)
    other._there = {row: True for row in stream._there}
    other._kept = [stream._kept[index] for index in indexes]
    return other
