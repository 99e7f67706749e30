"""The terminal: a hub that is told its operations, and asked, by texts."""

from surestreams.bounds import present, sure
from surestreams.commands import DONE, OPERATIONS, number_word, parted_command, perform, plain_word, refuse
from surestreams.errors import InvalidCommand, InvalidNumber
from surestreams.formats import lines_text, row_text, rows_text
from surestreams.hub import Hub, known_queries
from surestreams.language import format_query, parse_query


class Terminal:
    """A hub whose commands and answers are texts."""

    def __init__(self):
        self._hub = Hub()

    def execute(self, command):
        """Performs a command; returns the text of the answer."""
        if not isinstance(command, str) or "\n" in command or command == "" or command.startswith(" "):
            raise InvalidCommand(None)
        word, rest = parted_command(command)
        if word == "crash":
            self._hub = crashed(self._hub, rest)
            return DONE
        if word in OPERATIONS:
            return perform(self._hub, command)
        if word not in QUESTIONS:
            raise InvalidCommand(word)
        answer = QUESTIONS[word]
        return answer(self._hub, rest)


def crashed(hub, rest):
    """Returns the hub that is recovered from the first characters of the journal of a hub."""
    number = number_word(rest, rest)
    journal = hub.journal()
    if number > len(journal):
        raise InvalidNumber(number)
    return Hub.recovered(journal[:number])


def check_nothing(rest):
    """Raises InvalidText if something, also a space, stands behind the first word."""
    if rest is not None:
        refuse(rest)


def tell_streams(hub, rest):
    """The names of the streams."""
    check_nothing(rest)
    return lines_text(hub.streams())


def tell_views(hub, rest):
    """The names of the views."""
    check_nothing(rest)
    return lines_text(hub.views())


def tell_subscribers(hub, rest):
    """The names of the subscribers."""
    check_nothing(rest)
    return lines_text(hub.subscribers())


def tell_size(hub, rest):
    """The number of characters of the journal."""
    check_nothing(rest)
    return str(len(hub.journal()))


def tell_out(hub, rest):
    """The rows of a view that are out."""
    return rows_text(hub.out(plain_word(rest)))


def tell_waiting(hub, rest):
    """The rows of a view that wait."""
    return rows_text(hub.waiting(plain_word(rest)))


def tell_query(hub, rest):
    """The text of the query of a view."""
    return format_query(hub.query_of(plain_word(rest)))


def tell_pending(hub, rest):
    """The positions and rows that a subscriber has not acknowledged."""
    return lines_text([f"{position} {row_text(row)}" for position, row in hub.pending(plain_word(rest))])


def tell_sure(hub, rest):
    """The sure rows of a query."""
    query = read_query(hub, rest)
    return rows_text(sure(query, streams_in(hub, query)))


def tell_present(hub, rest):
    """The present result of a query."""
    query = read_query(hub, rest)
    return rows_text(present(query, streams_in(hub, query)))


def read_query(hub, rest):
    """Returns the query over streams and views with a text."""
    if rest is None:
        refuse(rest)
    return parse_query(rest, known_queries(hub))


def streams_in(hub, query):
    """Returns a dict with the streams that a query uses."""
    return {name: hub.stream_of(name) for name in query.streams()}


QUESTIONS = {
    "streams": tell_streams,
    "views": tell_views,
    "subscribers": tell_subscribers,
    "size": tell_size,
    "out": tell_out,
    "waiting": tell_waiting,
    "query": tell_query,
    "pending": tell_pending,
    "sure": tell_sure,
    "present": tell_present,
}
