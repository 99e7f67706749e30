"""Tokens: the names, numbers and signs of which the text of a query consists."""

from surestreams.formats import is_number_text
from surestreams.limits import LETTERS

DIGITS = "0123456789"
# The longer signs stand first, as the longest possible token is taken.
TOKEN_SIGNS = (
    "!=", "<=", ">=", "->", "&", "|", "-", "(", ")", "[", "]", "{", "}", ",", "=", "<", ">",
)


class Token:
    """A token; kind is "name", "number" or the sign itself, and at is the index of its first character.

    Where no token begins, kind is "none"; behind the last token, it is "end".
    """

    def __init__(self, kind, word, at):
        self.kind = kind
        self.word = word
        self.at = at


def tokens_of(text):
    """Returns the list of the tokens of a text; the last one is of the kind "end" or "none"."""
    found = []
    at = start_of_token(text, 0)
    while at < len(text):
        token = token_at(text, at)
        found.append(token)
        if token.kind == "none":
            return found
        at = start_of_token(text, at + len(token.word))
    return found + [Token("end", "", len(text))]


def start_of_token(text, at):
    """Returns the index of the first character from an index on that is no space, or the length."""
    return at + run_length(text, at, " ")


def run_length(text, at, characters):
    """Returns how many characters of a text from an index on are among some characters."""
    end = at
    while end < len(text) and text[end] in characters:
        end += 1
    return end - at


def token_at(text, at):
    """Returns the token that begins at an index, where a character stands that is no space."""
    word = text[at:at + run_length(text, at, LETTERS)]
    if word:
        return Token("name", word, at)
    word = text[at:at + run_length(text, at, DIGITS)]
    if word:
        return Token("number" if is_number_text(word) else "none", word, at)
    for sign in TOKEN_SIGNS:
        if text.startswith(sign, at):
            return Token(sign, sign, at)
    return Token("none", "", at)
