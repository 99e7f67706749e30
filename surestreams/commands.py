"""Commands: the operations of a hub as texts, which are also the bodies of the lines of its journal.

In the rules, rest is what stands behind the first word and its space, or None if there is no space.
"""

from surestreams.errors import InvalidCommand, InvalidText
from surestreams.formats import found_in, is_number_text, lines_text, read_limits, read_row, row_text, rows_text

DONE = "ok"


def refuse(rest):
    """Raises InvalidText with what stands behind the first word."""
    raise InvalidText("" if rest is None else rest)


def is_plain(word):
    """Returns whether a text may stand for a name, a view or a kind."""
    return word != "" and " " not in word and ":" not in word


def plain_word(rest):
    """Returns the name that is the rest of a command."""
    if rest is None or not is_plain(rest):
        refuse(rest)
    return rest


def two_words(rest):
    """Returns a list of the two words that are the rest of a command, of which the first one is a name."""
    words = [] if rest is None else rest.split(" ")
    if len(words) != 2 or not is_plain(words[0]):
        refuse(rest)
    return words


def number_word(rest, word):
    """Returns the number that is written in a word of the rest of a command."""
    if word is None or not is_number_text(word):
        refuse(rest)
    return int(word)


def columns_word(rest, word):
    """Returns the pair of a name and a kind that is written in a word of the rest of a command."""
    name, _, kind = word.partition(":")
    if not is_plain(name) or not is_plain(kind):
        refuse(rest)
    return (name, kind)


def do_declare(hub, rest):
    """Adds a stream."""
    words = [""] if rest is None else rest.split(" ")
    columns = tuple([columns_word(rest, word) for word in words[1:]])
    if not columns or not is_plain(words[0]):
        refuse(rest)
    hub.declare(words[0], columns)
    return DONE


def do_define(hub, rest):
    """Adds a view: the rows that are given out."""
    name, space, text = ("" if rest is None else rest).partition(" ")
    if not space or not is_plain(name):
        refuse(rest)
    return rows_text(hub.define(name, text))


def do_drop(hub, rest):
    """Removes a view."""
    hub.drop(plain_word(rest))
    return DONE


def do_commit(hub, rest):
    """Performs events: the rows that are given out, behind the names of the views."""
    texts = [] if rest is None else rest.split("; ")
    if not all([is_event_text(text) for text in texts]):
        refuse(rest)
    told = hub.commit([read_event(hub, text) for text in texts])
    return lines_text([f"{name} {row_text(row)}" for name in sorted(told) for row in told[name]])


def is_event_text(text):
    """Returns whether a text has the words of an event, whatever its row or limits are."""
    words = text.split(" ")
    return len(words) > 2 and "" not in words and words[0] in ("row", "promise") and is_plain(words[1])


def read_event(hub, text):
    """Returns the event with this text, or raises UnknownStream or InvalidText."""
    words = text.split(" ")
    columns = hub.stream_of(words[1]).columns
    told = " ".join(words[2:])
    value = read_row(columns, told) if words[0] == "row" else read_limits(columns, told)
    return (words[0], words[1], found_in(text, value))


def do_subscribe(hub, rest):
    """Adds a subscriber."""
    words = two_words(rest)
    if not is_plain(words[1]):
        refuse(rest)
    hub.subscribe(words[0], words[1])
    return DONE


def do_acknowledge(hub, rest):
    """A subscriber has received rows."""
    words = two_words(rest)
    hub.acknowledge(words[0], number_word(rest, words[1]))
    return DONE


OPERATIONS = {
    "declare": do_declare,
    "define": do_define,
    "drop": do_drop,
    "commit": do_commit,
    "subscribe": do_subscribe,
    "acknowledge": do_acknowledge,
}


def parted_command(command):
    """Returns the first word of a command, and what stands behind its space, or None if there is no space."""
    word, space, rest = command.partition(" ")
    return (word, rest if space else None)


def perform(hub, command):
    """Performs an operation; returns the text of the answer."""
    word, rest = parted_command(command)
    if word not in OPERATIONS:
        raise InvalidCommand(word)
    action = OPERATIONS[word]
    return action(hub, rest)
