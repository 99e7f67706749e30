"""The language of queries: queries from texts, and the texts of queries.

The text of a query becomes a list of steps by which the query is made from below: each one makes a
query, and takes those that it is made from from the end of a list of queries.
"""

from surestreams.errors import InvalidSyntax, InvalidText, UnknownStream
from surestreams.tokens import tokens_of

# How tightly what joins two queries holds them together; all else holds more tightly.
STRENGTH = {"|": 1, "-": 2, "&": 3}
OPERATORS = {"union": "|", "minus": "-", "join": "&"}
WHERE_SIGNS = ("=", "!=", "<", "<=", ">", ">=")
CLOSURE = "closure"


class Reader:
    """Reads the tokens of a text one by one, and keeps what is to be made of them.

    made are the steps; held are the operators and opening brackets that wait for their right side.
    """

    def __init__(self, text):
        self.tokens = tokens_of(text)
        self.at = 0
        self.made = []
        self.held = []

    def next_kind(self):
        """Returns the kind of the token that comes."""
        return self.tokens[self.at].kind

    def take(self, kinds):
        """Takes the token that comes, which must be of one of some kinds; returns its word."""
        token = self.tokens[self.at]
        if token.kind not in kinds:
            raise InvalidSyntax(token.at)
        self.at += 1
        return token.word

    def begins_closure(self):
        """Returns whether the token that comes is a word behind which only a closure has its bracket."""
        token = self.tokens[self.at]
        return token.word == CLOSURE and self.tokens[self.at + 1].kind == "("

    def make_held(self, strength):
        """Makes of the operators that are held last what holds at least so tightly."""
        while self.held and STRENGTH.get(self.held[-1], 0) >= strength:
            self.made.append((self.held.pop(),))


def parse_query(text, known):
    """Returns the query with this text; known is a dict from names to queries."""
    if not isinstance(text, str):
        raise InvalidText(text)
    steps = steps_in(text)
    for step in steps:
        if step[0] == "name" and step[1] not in known:
            raise UnknownStream(step[1])
    stack = []
    for step in steps:
        if step[0] == "name":
            stack.append(known[step[1]])
        elif step[0] in STRENGTH:
            other = stack.pop()
            one = stack.pop()
            stack.append(joined_by(step[0], one, other))
        else:
            stack.append(changed_by(step, stack.pop()))
    return stack[0]


def steps_in(text):
    """Returns the steps that make the query with this text, or raises InvalidSyntax."""
    reader = Reader(text)
    read_base(reader)
    while reader.next_kind() != "end" or "(" in reader.held or CLOSURE in reader.held:
        read_behind_part(reader)
    reader.make_held(1)
    return reader.made


def read_base(reader):
    """Reads the opening brackets that come, and the name behind them."""
    while reader.begins_closure() or reader.next_kind() == "(":
        reader.held.append(CLOSURE if reader.take(("name", "(")) == CLOSURE else "(")
        if reader.held[-1] == CLOSURE:
            reader.take(("(",))
    reader.made.append(("name", reader.take(("name",))))


def read_behind_part(reader):
    """Reads what may come behind a part: a suffix, a closing bracket, or an operator and a base."""
    is_inside = "(" in reader.held or CLOSURE in reader.held
    sign = reader.take(("[", "{", "&", "-", "|") + ((")",) if is_inside else ()))
    if sign == "[":
        reader.made.append(("columns", read_names(reader)))
    elif sign == "{":
        reader.made.append(read_braces(reader))
    elif sign == ")":
        reader.make_held(1)
        if reader.held.pop() == CLOSURE:
            reader.made.append((CLOSURE,))
    else:
        reader.make_held(STRENGTH[sign])
        reader.held.append(sign)
        read_base(reader)


def read_names(reader):
    """Reads the names of columns up to the bracket behind them."""
    names = [reader.take(("name",))]
    while reader.take((",", "]")) == ",":
        names.append(reader.take(("name",)))
    return tuple(names)


def read_braces(reader):
    """Reads a condition, or a new name, and the brace behind it; returns the step."""
    name = reader.take(("name",))
    sign = reader.take(WHERE_SIGNS + ("->",))
    if sign == "->":
        step = ("renamed", name, reader.take(("name",)))
    elif reader.next_kind() == "number":
        step = ("where", name, sign, int(reader.take(("number",))))
    else:
        step = ("where", name, sign, reader.take(("name",)))
    reader.take(("}",))
    return step


def joined_by(sign, one, other):
    """Returns the query that an operator makes of two queries."""
    if sign == "&":
        return one & other
    return one | other if sign == "|" else one - other


def changed_by(step, query):
    """Returns the query that a step makes of one query."""
    if step[0] == "columns":
        return query[step[1]]
    if step[0] == "where":
        return query.where(step[1], step[2], step[3])
    return query.renamed(step[1], step[2]) if step[0] == "renamed" else query.closure()


def format_query(query):
    """Returns the text of a query."""
    parts = query.parts()
    if parts[0] == "source":
        return parts[1]
    if parts[0] == "closure":
        return f"{CLOSURE}({format_query(parts[1])})"
    if parts[0] in OPERATORS:
        sign = OPERATORS[parts[0]]
        # As the operators associate to the left, only the left part may be as strong as the query.
        left = bracketed(parts[1], STRENGTH[sign])
        return f"{left} {sign} {bracketed(parts[2], STRENGTH[sign] + 1)}"
    return bracketed(parts[1], len(STRENGTH) + 1) + suffix_text(parts)


def bracketed(query, strength):
    """Returns the text of a query, in brackets if it does not hold as tightly as this."""
    text = format_query(query)
    kind = query.parts()[0]
    if kind in OPERATORS and STRENGTH[OPERATORS[kind]] < strength:
        return f"({text})"
    return text


def suffix_text(parts):
    """Returns the text of a suffix from the parts of its query."""
    if parts[0] == "columns":
        return "[" + ", ".join(parts[2]) + "]"
    if parts[0] == "renamed":
        return "{" + f"{parts[2]} -> {parts[3]}" + "}"
    return "{" + f"{parts[2]} {parts[3]} {parts[4]}" + "}"
