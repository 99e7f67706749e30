"""Points 2, 13 and 19: the terminal, whose commands and answers are texts."""

import unittest
from random import Random

from surestreams.bounds import present, sure
from surestreams.errors import (
    BrokenPromise, InvalidColumns, InvalidCommand, InvalidName, InvalidNumber, InvalidQuery, InvalidSyntax, InvalidText, MixedUse, NameTaken,
    UnknownName, UnknownStream,
)
from surestreams.formats import format_row
from surestreams.hub import Hub
from surestreams.language import format_query
from surestreams.queries import source
from surestreams.terminal import Terminal
from tests.plain import drawn_query, drawn_sources
from tests.test_hub import bodies_of, drawn_hub, lines_of

START = ["declare come who:word", "declare gone who:word", "declare orders who:word day:number", "define left come - gone"]
QUESTIONS = ["streams", "views", "subscribers", "size"]


def fed(*commands):
    """Returns a terminal that has performed commands."""
    terminal = Terminal()
    for command in commands:
        terminal.execute(command)
    return terminal


def lines(texts):
    """Returns the answer of some lines."""
    return "\n".join(texts) or "-"


def rows_of(query, rows):
    """Returns the answer of some rows of a query."""
    return lines(format_row(query.columns, row) for row in rows)


def answers(terminal):
    """Returns all answers that tell what a terminal holds."""
    found = [terminal.execute(text) for text in QUESTIONS]
    for name in found[1].split("\n") if found[1] != "-" else []:
        found += [terminal.execute(f"{word} {name}") for word in ("query", "out", "waiting")]
    for name in found[0].split("\n") if found[0] != "-" else []:
        found += [terminal.execute(f"{word} {name}") for word in ("sure", "present")]
    for name in found[2].split("\n") if found[2] != "-" else []:
        found.append(terminal.execute(f"pending {name}"))
    return found


def told(hub, kind, arguments, result):
    """Returns the answer to an operation of a hub."""
    if kind == "define":
        return rows_of(hub.query_of(arguments[0]), result)
    if kind == "commit":
        return lines(f"{name} {format_row(hub.query_of(name).columns, row)}" for name in sorted(result) for row in result[name])
    return "ok"


class TerminalCase(unittest.TestCase):
    def refused(self, error, field, value, terminal, command):
        before = answers(terminal)
        with self.subTest(command=command):
            with self.assertRaises(error) as caught:
                terminal.execute(command)
            self.assertIs(type(caught.exception), error)
            self.assertEqual(getattr(caught.exception, field), value)
            self.assertEqual(answers(terminal), before)


class CommandsTest(TerminalCase):
    def test_drawn_operations(self):
        for seed in range(120):
            whole, _, operations = drawn_hub(seed, 20)
            hub, terminal = Hub(), Terminal()
            for body, (kind, *arguments) in zip(bodies_of(whole.journal()), operations):
                result = getattr(hub, kind)(*arguments)
                with self.subTest(seed=seed, body=body):
                    self.assertEqual(terminal.execute(body), told(hub, kind, arguments, result))
                    self.assertEqual(terminal.execute("size"), str(len(hub.journal())))
                    self.assertEqual([terminal.execute(text) for text in QUESTIONS[:3]], [lines(names) for names in (hub.streams(), hub.views(), hub.subscribers())])
                    for name in hub.views():
                        query = hub.query_of(name)
                        self.assertEqual(terminal.execute(f"out {name}"), rows_of(query, hub.out(name)))
                        self.assertEqual(terminal.execute(f"waiting {name}"), rows_of(query, hub.waiting(name)))
                        self.assertEqual(terminal.execute(f"query {name}"), format_query(query))
                    for name in hub.subscribers():
                        self.assertEqual(terminal.execute(f"pending {name}"), lines(f"{at} {' '.join(map(str, row))}" for at, row in hub.pending(name)))

    def test_questions_about_drawn_queries(self):
        for seed in range(100):
            hub, _, operations = drawn_hub(seed, 15)
            terminal = fed(*bodies_of(hub.journal()))
            chance = Random(seed)
            streams = {name: hub.stream_of(name) for name in hub.streams()}
            sources = [each for each in drawn_sources(Random(seed)) if each.parts()[1] in streams]
            query = drawn_query(chance, sources, 4)
            text = format_query(query)
            with self.subTest(seed=seed, text=text):
                self.assertEqual(terminal.execute(f"sure {text}"), rows_of(query, sure(query, streams)))
                self.assertEqual(terminal.execute(f"present   {text.replace(' ', '   ')}  "), rows_of(query, present(query, streams)))
            for name in hub.views():
                self.assertEqual(terminal.execute(f"present {name}"), rows_of(hub.query_of(name), present(hub.query_of(name), streams)))
                self.assertEqual(terminal.execute(f"sure ( {name} )"), rows_of(hub.query_of(name), sure(hub.query_of(name), streams)))

    def test_each_command(self):
        terminal = Terminal()
        self.assertEqual([terminal.execute(text) for text in QUESTIONS], ["-", "-", "-", "0"])
        self.assertEqual([terminal.execute(text) for text in START], ["ok", "ok", "ok", "-"])
        self.assertEqual([terminal.execute(text) for text in QUESTIONS], ["come\ngone\norders", "left", "-", str(len(lines_of(START)))])
        self.assertEqual(terminal.execute("commit row come bob; row come ann; row orders cid 10; row orders bob 9"), "-")
        self.assertEqual((terminal.execute("waiting left"), terminal.execute("out left")), ("ann\nbob", "-"))
        self.assertEqual(terminal.execute("define days   orders{day>0}  [day , who]"), "9 bob\n10 cid")
        self.assertEqual(terminal.execute("query days"), "orders{day > 0}[day, who]")
        self.assertEqual(terminal.execute("commit promise gone who!ann; row orders ann 1; row come dan"), "days 1 ann\nleft bob\nleft dan")
        self.assertEqual((terminal.execute("subscribe x days"), terminal.execute("subscribe y left")), ("ok", "ok"))
        self.assertEqual(terminal.execute("subscribers"), "x\ny")
        self.assertEqual(terminal.execute("pending x"), "0 9 bob\n1 10 cid\n2 1 ann")
        self.assertEqual(terminal.execute("acknowledge x 2"), "ok")
        self.assertEqual((terminal.execute("pending x"), terminal.execute("pending y")), ("2 1 ann", "0 bob\n1 dan"))
        self.assertEqual((terminal.execute("acknowledge x 3"), terminal.execute("pending x")), ("ok", "-"))
        self.assertEqual(terminal.execute("sure come[who] - gone"), "bob\ndan")
        self.assertEqual(terminal.execute("present left & orders"), "ann 1\nbob 9")
        self.assertEqual((terminal.execute("sure left{who = x}"), terminal.execute("present gone")), ("-", "-"))
        self.assertEqual((terminal.execute("drop days"), terminal.execute("subscribers"), terminal.execute("views")), ("ok", "y", "left"))
        self.assertEqual((terminal.execute("commit"), terminal.execute("commit row come ann")), ("-", "-"))
        self.assertEqual(terminal.execute("commit promise gone *"), "left ann")

    def test_names_that_are_words_of_the_terminal(self):
        terminal = Terminal()
        for text in ("declare row commit:word", "declare promise row:number", "define commit row", "define crash promise", "subscribe streams commit", "commit row row row; row promise 3; promise row commit!row"):
            terminal.execute(text)
        self.assertEqual((terminal.execute("out commit"), terminal.execute("out crash"), terminal.execute("pending streams")), ("row", "3", "0 row"))
        self.assertEqual(terminal.execute("sure closure(row[commit] & row{commit -> x})"), "row row")

    def test_crash(self):
        bodies = START + ["commit row come ann; promise gone *", "subscribe x left", "acknowledge x 1"]
        journal = lines_of(bodies)
        for size in range(len(journal) + 1):
            terminal = fed(*bodies)
            self.assertEqual(terminal.execute(f"crash {size}"), "ok")
            number = journal[:size].count("\n")
            self.assertEqual(answers(terminal), answers(fed(*bodies[:number])), size)
            for body in bodies[number:]:
                terminal.execute(body)
            self.assertEqual(answers(terminal), answers(fed(*bodies)), size)
        terminal = fed(*bodies)
        for number in (len(journal) + 1, 10 ** 30):
            self.refused(InvalidNumber, "value", number, terminal, f"crash {number}")
        terminal.execute("crash 0")
        self.assertEqual(terminal.execute("size"), "0")
        self.refused(InvalidNumber, "value", 1, terminal, "crash 1")
        self.assertEqual(terminal.execute("crash 0"), "ok")

    def test_by_name(self):
        self.assertEqual(Terminal().execute(command="streams"), "-")


class ErrorsTest(TerminalCase):
    def setUp(self):
        self.terminal = fed(*START, "commit row come ann; row come bob; promise gone who=ann; promise come who=eve", "subscribe x left", "define more orders")

    def test_no_commands(self):
        for value in (None, True, 3, b"size", [], ["size"], ("size",), {}, object(), Terminal, "", " ", " size", "  ", "size\n", "\n", "\nsize", "commit row come\nann", "xyz\n", " xyz", "drop \n"):
            self.refused(InvalidCommand, "word", None, self.terminal, value)

    def test_unknown_words(self):
        for text, word in (("x", "x"), ("Size", "Size"), ("row come ann", "row"), ("promise gone *", "promise"), ("journal", "journal"), ("x  y ", "x"), ("open come ann", "open"), ("why ann", "why"), ("xyz ", "xyz"), ("size;", "size;"), ("3", "3")):
            self.refused(InvalidCommand, "word", word, self.terminal, text)

    def test_texts_that_are_not_of_the_form(self):
        for word in QUESTIONS:
            for rest in ("", " ", "x", "left"):
                self.refused(InvalidText, "value", rest, self.terminal, f"{word} {rest}")
        for word in ("declare", "define", "drop", "subscribe", "acknowledge", "out", "waiting", "query", "sure", "present", "pending", "crash"):
            self.refused(InvalidText, "value", "", self.terminal, word)
        for word in ("drop", "out", "waiting", "query", "pending"):
            for rest in ("", " ", " left", "left ", "left x", "x:y", ":", "left:"):
                self.refused(InvalidText, "value", rest, self.terminal, f"{word} {rest}")
        for rest in ("", " ", "new", "new ", "new who", "new who:", "new :word", "new :", "new who:word ", " new who:word", "new  who:word", "new who:word:word", "new who::word", "n:w who:word", "new who:word x", "who:word", "new who:word  day:number", ": who:word"):
            self.refused(InvalidText, "value", rest, self.terminal, f"declare {rest}")
        for rest in ("", "new", "left", " come", " new come", "n:w come", "new: come", ": come"):
            self.refused(InvalidText, "value", rest, self.terminal, f"define {rest}")
        for rest in ("", "z", "z ", "z left ", " z left", "z  left", "z left x", "z:y left", "z le:ft", "z :"):
            self.refused(InvalidText, "value", rest, self.terminal, f"subscribe {rest}")
        for rest in ("", "x", "x ", "x 0 ", " x 0", "x  0", "x 00", "x 01", "x -1", "x +1", "x one", "x 1.0", "x 0 0", "x: 0", "x:y 0", "0", "new 01", "x 1,0"):
            self.refused(InvalidText, "value", rest, self.terminal, f"acknowledge {rest}")
        for rest in ("", " ", "00", "01", "-1", "+1", "one", "1 ", " 1", "1 1", "1.0", "x"):
            self.refused(InvalidText, "value", rest, self.terminal, f"crash {rest}")
        for rest in (
            "", " ", "row", "row come", "row come ", "row  come ann", " row come ann", "row come ann ", "row come  ann", "x come ann", "rows come ann", "ROW come ann", "row co:me ann", "row : ann", "row come ann; ", "; row come ann", ";",
            "row come ann; row come", "row come ann;  row come bob", "row come ann; ; row come bob", "promise gone", "promise gone ", "define left come", "row come ann; commit", "row none", "row none x; row come",
            "row come Ann; row come", "row come ann;row come bob ", "row come ann; row come  bob", "row come ann; row come bob ", "row come ann ; row come bob", "row none x; row  come ann",
        ):
            self.refused(InvalidText, "value", rest, self.terminal, f"commit {rest}")

    def test_errors_of_events(self):
        for text, error, field, value in (
            ("row none ann", UnknownStream, "stream", "none"), ("row left ann", UnknownStream, "stream", "left"), ("promise x *", UnknownStream, "stream", "x"), ("row Come ann", UnknownStream, "stream", "Come"), ("row none Ann 3", UnknownStream, "stream", "none"),
            ("row come Ann", InvalidText, "value", "row come Ann"), ("row come ann bob", InvalidText, "value", "row come ann bob"), ("row come 3", InvalidText, "value", "row come 3"), ("row come ann;row come bob", InvalidText, "value", "row come ann;row come bob"),
            ("row orders ann 03", InvalidText, "value", "row orders ann 03"), ("promise orders day=3", InvalidText, "value", "promise orders day=3"), ("promise orders day=3..4 who=ann", InvalidText, "value", "promise orders day=3..4 who=ann"),
            ("promise gone who=b,a", InvalidText, "value", "promise gone who=b,a"), ("promise gone who!", InvalidText, "value", "promise gone who!"), ("promise gone ann", InvalidText, "value", "promise gone ann"), ("row come who:word", InvalidText, "value", "row come who:word"),
            ("row come ann;; row come bob", InvalidText, "value", "row come ann;"), ("row gone ann; row come Ann", InvalidText, "value", "row come Ann"), ("row come Ann; row none ann", InvalidText, "value", "row come Ann"), ("row none ann; row come Ann", UnknownStream, "stream", "none"), ("row gone ann; promise none *", UnknownStream, "stream", "none"),
            ("row come cid; row co.me ann; row come Ann", UnknownStream, "stream", "co.me"), ("row gone ann", BrokenPromise, "index", 0), ("row come cid; row gone ann; row come eve", BrokenPromise, "index", 0),
            ("row come cid; promise come *; row come dan", BrokenPromise, "index", 1), ("row come eve", BrokenPromise, "index", 0), ("promise gone *; row gone dan; row gone ann", BrokenPromise, "index", 1),
        ):
            self.refused(error, field, value, self.terminal, f"commit {text}")

    def test_errors_of_the_hub(self):
        for text, error, field, value in (
            ("declare New who:word", InvalidName, "value", "New"), ("declare n1 who:text", InvalidName, "value", "n1"), ("declare new who:text", InvalidColumns, "value", (("who", "text"),)), ("declare come who:word who:number", InvalidColumns, "value", (("who", "word"), ("who", "number"))),
            ("declare new Who:word", InvalidColumns, "value", (("Who", "word"),)), ("declare come who:word", NameTaken, "word", "come"), ("declare left who:word", NameTaken, "word", "left"), ("define New come", InvalidName, "value", "New"), ("define come (", NameTaken, "word", "come"),
            ("define left come", NameTaken, "word", "left"), ("define new come -", InvalidSyntax, "position", 6), ("define new ", InvalidSyntax, "position", 0), ("define new  ", InvalidSyntax, "position", 1), ("define new   come )", InvalidSyntax, "position", 7),
            ("define new none", UnknownStream, "stream", "none"), ("define new come - left", MixedUse, "stream", "come"), ("define new come{day = 3}", InvalidQuery, "value", "day"), ("drop come", UnknownName, "word", "come"), ("drop Left", UnknownName, "word", "Left"), ("drop x", UnknownName, "word", "x"),
            ("subscribe X left", InvalidName, "value", "X"), ("subscribe x none", NameTaken, "word", "x"), ("subscribe z none", UnknownName, "word", "none"), ("subscribe z come", UnknownName, "word", "come"), ("acknowledge z 0", UnknownName, "word", "z"), ("acknowledge left 9", UnknownName, "word", "left"),
            ("acknowledge x 2", InvalidNumber, "value", 2), ("out come", UnknownName, "word", "come"), ("waiting x", UnknownName, "word", "x"), ("query none", UnknownName, "word", "none"), ("pending left", UnknownName, "word", "left"), ("sure ", InvalidSyntax, "position", 0),
            ("present ", InvalidSyntax, "position", 0), ("sure  ", InvalidSyntax, "position", 1), ("present come -", InvalidSyntax, "position", 6), ("sure come:gone", InvalidSyntax, "position", 4), ("sure none", UnknownStream, "stream", "none"), ("present x", UnknownStream, "stream", "x"),
            ("sure come - come", MixedUse, "stream", "come"), ("present come[day]", InvalidQuery, "value", ("day",)), ("present come | orders", InvalidQuery, "value", source("orders", (("who", "word"), ("day", "number")))),
        ):
            self.refused(error, field, value, self.terminal, text)
        self.terminal.execute("acknowledge x 1")
        self.refused(InvalidNumber, "value", 0, self.terminal, "acknowledge x 0")

    def test_two_errors_at_once(self):
        for text, error, field, value in (
            ("xyz come\n", InvalidCommand, "word", None), ("xyz", InvalidCommand, "word", "xyz"), ("drop None x", InvalidText, "value", "None x"), ("declare Come who", InvalidText, "value", "Come who"), ("acknowledge none 01", InvalidText, "value", "none 01"),
            ("declare Come who:text", InvalidName, "value", "Come"), ("define Left (", InvalidName, "value", "Left"), ("subscribe X none", InvalidName, "value", "X"), ("commit row none ann; row come", InvalidText, "value", "row none ann; row come"),
            ("crash 99999", InvalidNumber, "value", 99999),
        ):
            self.refused(error, field, value, self.terminal, text)


if __name__ == "__main__":
    unittest.main()
