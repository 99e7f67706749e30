"""The errors of the package: each one has a field for the argument that it was made with."""


class StreamError(ValueError):
    """A value does not have the form that it must have."""


class InvalidColumns(StreamError):
    """A value is not columns."""

    def __init__(self, value):
        self.value = value


class InvalidRow(StreamError):
    """A value is not a row of the columns."""

    def __init__(self, value):
        self.value = value


class InvalidBox(StreamError):
    """A value is not a box of the columns, or not the limits of one."""

    def __init__(self, value):
        self.value = value


class InvalidQuery(StreamError):
    """A value does not fit into a query."""

    def __init__(self, value):
        self.value = value


class InvalidEvent(StreamError):
    """A value is not an event of the streams."""

    def __init__(self, value):
        self.value = value


class InvalidText(StreamError):
    """A value is not a text of the form that is read."""

    def __init__(self, value):
        self.value = value


class InvalidCommand(StreamError):
    """A command is not known, or has too few words; the word is None if it has no first word."""

    def __init__(self, word):
        self.word = word


class InvalidSyntax(StreamError):
    """A text is not the text of a query, as is clear at this position."""

    def __init__(self, position):
        self.position = position


class InvalidName(StreamError):
    """A value is not a name."""

    def __init__(self, value):
        self.value = value


class InvalidNumber(StreamError):
    """A value is not a number from the range that is allowed."""

    def __init__(self, value):
        self.value = value


class UnknownStream(KeyError):
    """There is no such stream."""

    def __init__(self, stream):
        self.stream = stream


class BrokenPromise(RuntimeError):
    """A row is forbidden by the promise with this index."""

    def __init__(self, index):
        self.index = index


class MixedUse(RuntimeError):
    """A stream would be used both for adding and for taking away."""

    def __init__(self, stream):
        self.stream = stream


class UnknownName(KeyError):
    """There is nothing of this name."""

    def __init__(self, word):
        self.word = word


class NameTaken(RuntimeError):
    """There is already something of this name."""

    def __init__(self, word):
        self.word = word


class DamagedJournal(RuntimeError):
    """No operation writes the line with this index into the journal."""

    def __init__(self, line):
        self.line = line
