"""Points 2, 10 and 13: the console, whose commands and answers are texts."""

import unittest

from surestreams.console import Console
from surestreams.engine import Engine
from surestreams.errors import BrokenPromise, InvalidCommand, InvalidText, UnknownStream
from surestreams.formats import format_limits, format_row
from surestreams.papers import reasons, removal
from surestreams.queries import source
from tests.plain import columns_of, drawn_history, world

WHO = (("who", "word"),)
ORDERS = (("who", "word"), ("day", "number"))
COME, GONE = source("come", WHO), source("gone", WHO)
LEFT = COME - GONE
LATE = source("orders", ORDERS).where("day", ">", 3)["who"] - source("bans", (("who", "word"), ("why", "word")))["who"]


def event_command(query, event):
    """Returns the command that performs an event."""
    kind, name, value = event
    columns = columns_of(query)[name]
    return f"{kind} {name} " + (format_row(columns, value) if kind == "row" else format_limits(columns, value))


def lines(texts):
    """Returns the answer of some lines."""
    return "\n".join(texts) or "-"


def fed(query, *commands):
    """Returns a console that has performed commands."""
    console = Console(query)
    for command in commands:
        console.execute(command)
    return console


class ConsoleCase(unittest.TestCase):
    def refused(self, error, field, value, console, command):
        before = (console.execute("out"), console.execute("waiting"))
        with self.assertRaises(error) as caught:
            console.execute(command)
        self.assertIs(type(caught.exception), error)
        self.assertEqual(getattr(caught.exception, field), value)
        self.assertEqual((console.execute("out"), console.execute("waiting")), before)


class AnswersTest(ConsoleCase):
    def test_drawn_histories(self):
        for seed in range(120):
            chance, query, events = drawn_history(seed, 5, 16)
            engine, console = Engine(query), Console(query)
            for event in events:
                rows = [row for _, row in engine.feed([event])]
                with self.subTest(seed=seed):
                    self.assertEqual(console.execute(event_command(query, event)), lines(format_row(query.columns, row) for row in rows))
                    self.assertEqual(console.execute("out"), lines(format_row(query.columns, row) for row in engine.out()))
                    self.assertEqual(console.execute("waiting"), lines(format_row(query.columns, row) for row in engine.waiting()))
            for row in engine.out() + engine.waiting() + chance.sample(world(query.columns), 3):
                answer = console.execute("why " + format_row(query.columns, row))
                if row in engine.out():
                    self.assertEqual(answer, lines(f"{name} {index}" for name, index in reasons(engine, row)))
                elif row in engine.waiting():
                    pairs = removal(engine, row)
                    self.assertEqual(answer, lines(f"{name} {format_row(columns_of(query)[name], each)}" for name, each in pairs))
                else:
                    self.assertEqual(answer, "no")
            for name, columns in columns_of(query).items():
                for row in chance.sample(world(columns), 4):
                    answer = console.execute(f"open {name} {format_row(columns, row)}")
                    self.assertEqual(answer, "yes" if engine.stream_of(name).is_open(row) else "no")

    def test_rows_that_become_sure(self):
        console = Console(LEFT)
        self.assertEqual([console.execute(text) for text in ("out", "waiting")], ["-", "-"])
        told = [console.execute(f"row come {word}") for word in ("dan", "bob", "ann", "abe", "cid")]
        self.assertEqual(told, ["-"] * 5)
        self.assertEqual(console.execute("waiting"), "abe\nann\nbob\ncid\ndan")
        self.assertEqual(console.execute("promise gone who!cid,dan"), "abe\nann\nbob")
        self.assertEqual(console.execute("row gone cid"), "-")
        self.assertEqual(console.execute("promise gone *"), "dan")
        self.assertEqual(console.execute("row come eve"), "eve")
        self.assertEqual(console.execute("out"), "abe\nann\nbob\ndan\neve")
        self.assertEqual(console.execute("waiting"), "-")

    def test_a_row_that_came_again(self):
        console = fed(LEFT, "promise gone *", "row come ann", "promise come *")
        self.assertEqual(console.execute("row come ann"), "-")
        self.assertEqual(console.execute("out"), "ann")

    def test_open(self):
        console = fed(LATE, "row orders ann 3", "promise orders day=0..2", "promise bans why=x,y")
        for text, answer in (
            ("orders ann 3", "no"), ("orders ann 4", "yes"), ("orders bob 3", "yes"), ("orders bob 2", "no"), ("bans ann x", "no"), ("bans ann z", "yes"),
        ):
            self.assertEqual(console.execute("open " + text), answer)

    def test_why(self):
        console = fed(LEFT, "row come ann", "row come bob", "promise come *", "promise gone who=cid", "promise gone who=bob")
        self.assertEqual(console.execute("why ann"), "gone ann")
        self.assertEqual(console.execute("why bob"), "gone 1")
        self.assertEqual(console.execute("why cid"), "no")
        self.assertEqual(fed(COME, "row come ann").execute("why ann"), "-")
        both = fed(COME - (GONE | source("lost", WHO)), "row come ann", "promise lost *", "promise gone who=b", "promise gone *")
        self.assertEqual(both.execute("why ann"), "gone 1\nlost 0")
        pairs = source("way", (("a", "word"), ("b", "word")))
        cut = source("cut", (("a", "word"), ("b", "word")))
        console = fed((pairs - cut).closure(), "row way a b", "row way b d", "row way a c", "row way c d")
        answer = console.execute("why a d").split("\n")
        self.assertEqual(len(answer), 2)
        self.assertTrue(set(answer) <= {"cut a b", "cut a c", "cut b d", "cut c d"})

    def test_columns_of_streams_and_of_the_query(self):
        console = fed(LATE, "row orders bob 2", "row orders ann 9", "row orders cid 4")
        self.assertEqual(console.execute("waiting"), "ann\ncid")
        self.assertEqual(console.execute("promise bans who!cid why!x"), "-")
        self.assertEqual(console.execute("promise bans who=ann,bob why=x"), "ann")
        self.assertEqual(console.execute("why ann"), "bans 0\nbans 1")
        self.refused(InvalidText, "value", "ann 9", console, "why ann 9")
        self.refused(InvalidText, "value", "ann", console, "row orders ann")
        self.refused(InvalidText, "value", "day=1..3", console, "promise bans day=1..3")

    def test_questions_change_nothing(self):
        console, other = Console(LEFT), Console(LEFT)
        for text in ("row come ann", "row come bob", "promise gone who=ann", "promise gone *"):
            self.assertEqual(console.execute(text), other.execute(text))
            for question in ("out", "waiting", "open come cid", "open gone bob", "why ann", "why bob", "why cid"):
                self.assertEqual(console.execute(question), console.execute(question))

    def test_by_name(self):
        self.assertEqual(Console(query=LEFT).execute(command="row come ann"), "-")


class ErrorsTest(ConsoleCase):
    def setUp(self):
        self.console = fed(LEFT, "row come ann", "row come bob", "promise come who=cid,dan", "promise come who=dan", "promise gone who=bob")

    def test_no_commands(self):
        for value in (
            None, True, 3, b"out", [], ["out"], ("out",), {}, object(), Console, "", " ", "out ", " out", "row  come ann", "row come  ann", "row come ann ",
            "row come ann\n", "\nout", "out\n", "row come\nann", "xyz ", "\n", "why ", "open come ann  ",
        ):
            with self.subTest(value=value):
                self.refused(InvalidCommand, "word", None, self.console, value)

    def test_unknown_first_words_and_too_few_words(self):
        for text in (
            "x", "Out", "rows come ann", "ann", "row", "row come", "promise", "promise gone", "open", "open come", "why", "out x", "out out", "waiting x",
            "waiting come ann", "- x", "ROW come ann", "x come ann", "row left", "promise left", "events", "removal ann", "out left ann",
        ):
            with self.subTest(text=text):
                self.refused(InvalidCommand, "word", text.split(" ")[0], self.console, text)

    def test_unknown_streams(self):
        for name in ("left", "who", "Come", "come,", "x", "*", "3"):
            for text in (f"row {name} ann", f"promise {name} *", f"open {name} ann", f"row {name} Ann 3", f"promise {name} x", f"open {name} dan dan"):
                with self.subTest(text=text):
                    self.refused(UnknownStream, "stream", name, self.console, text)

    def test_texts_of_rows_and_limits(self):
        for start in ("row come ", "open come ", "row gone ", "why "):
            for rest in ("Ann", "3", "ann bob", "ann 3", "*", "who=ann", "03", "ann;"):
                self.refused(InvalidText, "value", rest, self.console, start + rest)
        for name in ("come", "gone"):
            for rest in ("ann", "who=Ann", "who=b,a", "* *", "who=ann who=ann", "day=1..2", "who!", "who=ann *", "**"):
                self.refused(InvalidText, "value", rest, self.console, f"promise {name} {rest}")

    def test_broken_promises(self):
        self.refused(BrokenPromise, "index", 0, self.console, "row come cid")
        self.refused(BrokenPromise, "index", 0, self.console, "row come dan")
        self.refused(BrokenPromise, "index", 0, self.console, "row gone bob")
        self.console.execute("promise come *")
        self.refused(BrokenPromise, "index", 2, self.console, "row come eve")
        self.assertEqual(self.console.execute("row come ann"), "-")
        self.assertEqual(self.console.execute("out"), "bob")

    def test_two_errors_at_once(self):
        for text, error, field, value in (
            ("xyz  ann", InvalidCommand, "word", None), ("row come dan ", InvalidCommand, "word", None), ("row left\n", InvalidCommand, "word", None),
            ("out left", InvalidCommand, "word", "out"), ("row left", InvalidCommand, "word", "row"), ("row left Dan", UnknownStream, "stream", "left"),
            ("row come dan dan", InvalidText, "value", "dan dan"), ("open left *", UnknownStream, "stream", "left"),
        ):
            with self.subTest(text=text):
                self.refused(error, field, value, self.console, text)


if __name__ == "__main__":
    unittest.main()
