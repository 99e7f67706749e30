"""The console: an engine that is told its events, and asked, by lines of words."""

from surestreams.engine import Engine
from surestreams.errors import InvalidCommand
from surestreams.formats import found_in, lines_text, read_limits, read_row, row_text, rows_text
from surestreams.papers import reasons, removal


class Console:
    """An engine whose commands and answers are texts."""

    def __init__(self, query):
        self._engine = Engine(query)

    def execute(self, command):
        """Performs a command; returns the text of the answer."""
        words = words_of(command)
        if words[0] not in ACTIONS or not is_long_enough(words):
            raise InvalidCommand(words[0])
        action = ACTIONS[words[0]]
        return action(self._engine, words[1:])


def words_of(command):
    """Returns the words of a command, or raises InvalidCommand."""
    if not isinstance(command, str) or "\n" in command:
        raise InvalidCommand(None)
    words = command.split(" ")
    if "" in words:
        raise InvalidCommand(None)
    return words


def is_long_enough(words):
    """Returns whether a known command has as many words as it needs."""
    if words[0] in ("out", "waiting"):
        return len(words) == 1
    return len(words) >= (2 if words[0] == "why" else 3)


def row_in(columns, words):
    """Returns the row that is written in words, or raises InvalidText."""
    text = " ".join(words)
    return found_in(text, read_row(columns, text))


def limits_in(columns, words):
    """Returns the limits that are written in words, or raises InvalidText."""
    text = " ".join(words)
    return found_in(text, read_limits(columns, text))


def tell_row(engine, words):
    """A row comes: the rows that are given out."""
    columns = engine.stream_of(words[0]).columns
    return rows_text(engine.row(words[0], row_in(columns, words[1:])))


def tell_promise(engine, words):
    """A promise is made: the rows that are given out."""
    columns = engine.stream_of(words[0]).columns
    return rows_text(engine.promise(words[0], limits_in(columns, words[1:])))


def ask_out(engine, _):
    """The rows that are out."""
    return rows_text(engine.out())


def ask_waiting(engine, _):
    """The rows that wait."""
    return rows_text(engine.waiting())


def ask_whether_open(engine, words):
    """Whether a row of a stream is open."""
    stream = engine.stream_of(words[0])
    return "yes" if stream.is_open(row_in(stream.columns, words[1:])) else "no"


def ask_why(engine, words):
    """The reasons of a row that is out, or the removal of one that waits."""
    row = row_in(engine.query.columns, words)
    known = reasons(engine, row)
    if known is not None:
        return lines_text([f"{name} {index}" for name, index in known])
    missing = removal(engine, row)
    if missing is not None:
        return lines_text([f"{name} {row_text(other)}" for name, other in missing])
    return "no"


ACTIONS = {
    "row": tell_row,
    "promise": tell_promise,
    "out": ask_out,
    "waiting": ask_waiting,
    "open": ask_whether_open,
    "why": ask_why,
}
