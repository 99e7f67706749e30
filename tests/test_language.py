"""Points 3 (l) and 16: queries from texts, and texts of queries."""

import re
import unittest
from itertools import product
from random import Random

from surestreams.errors import InvalidQuery, InvalidSyntax, InvalidText, MixedUse, UnknownStream
from surestreams.language import format_query, parse_query
from surestreams.queries import source
from tests.plain import drawn_query, drawn_sources

PAIR = (("a", "word"), ("b", "word"))
DAY = (("a", "word"), ("n", "number"))
A, B, C, D = [source(name, PAIR) for name in ("a", "b", "c", "closure")]
N = source("n", DAY)
KNOWN = {"a": A, "b": B, "c": C, "closure": D, "n": N}
NO_TEXTS = [None, True, 3, b"a", [], ["a"], ("a",), {}, {"a": A}, A, object(), source]
SIGNS = ["&", "|", "-", "(", ")", "[", "]", "{", "}", ",", "=", "!=", "<", "<=", ">", ">=", "->"]
WHERE = ["=", "!=", "<", "<=", ">", ">="]


def plain_text(query, chance):
    """Returns a text of a query with brackets around all parts, and with spaces here and there."""
    kind, *rest = query.parts()
    gap = " " * chance.choice([0, 0, 1, 3])
    if kind == "source":
        return gap + rest[0] + gap
    part = f"({plain_text(rest[0], chance)}{gap})"
    if kind == "where":
        return part + f"{gap}{{{gap}{rest[1]}{gap}{rest[2]}{gap}{rest[3]}{gap}}}"
    if kind == "columns":
        return part + f"[{gap}" + f"{gap},".join(rest[1]) + f"{gap}]"
    if kind == "renamed":
        return part + f"{{{rest[1]}{gap}->{gap}{rest[2]}}}{gap}"
    if kind == "closure":
        return f"closure{gap}" + part
    return part + gap + {"join": "&", "union": "|", "minus": "-"}[kind] + gap + f"(({plain_text(rest[1], chance)}))"


def bracket_pairs(text):
    """Returns the pairs of the indexes of round brackets that belong together."""
    opened, found = [], []
    for at, sign in enumerate(text):
        if sign == "(":
            opened.append(at)
        elif sign == ")":
            found.append((opened.pop(), at))
    return found


class Grammar:
    """Reads tokens by the rules of the document, in all ways at once; notes whether it came to their end."""

    def __init__(self, tokens):
        self.tokens, self.came_to_end, self.known = tokens, False, {}

    def token(self, at, *words):
        """Returns the set of the index behind a token of these words; NAME stands for all names."""
        if at == len(self.tokens):
            self.came_to_end = True
            return set()
        token = self.tokens[at]
        kind = "NAME" if token.isalpha() else "NUMBER" if token.isdigit() else token
        return {at + 1} if kind in words or token in words else set()

    def row(self, at, *rules):
        """Returns the indexes behind one thing after the other; a tuple stands for words."""
        found = {at}
        for rule in rules:
            found = {end for each in found for end in (self.token(each, *rule) if isinstance(rule, tuple) else rule(each))}
        return found

    def many(self, at, first, *more):
        """Returns the indexes behind a thing, and behind any number of rows of others."""
        found, new = set(), self.row(at, *first)
        while new - found:
            found |= new
            new = {end for each in found for end in self.row(each, *more)}
        return found

    def query(self, at):
        if ("query", at) not in self.known:
            self.known["query", at] = self.many(at, (self.unit,), ("|",), self.unit)
        return self.known["query", at]

    def unit(self, at):
        return self.many(at, (self.join,), ("-",), self.join)

    def join(self, at):
        return self.many(at, (self.part,), ("&",), self.part)

    def part(self, at):
        return self.many(at, (self.base,), self.suffix)

    def base(self, at):
        return self.token(at, "NAME") | self.row(at, ("(",), self.query, (")",)) | self.row(at, ("closure",), ("(",), self.query, (")",))

    def suffix(self, at):
        found = self.row(at, ("[",), lambda start: self.many(start, (("NAME",),), (",",), ("NAME",)), ("]",))
        found |= self.row(at, ("{",), ("NAME",), tuple(WHERE), ("NAME", "NUMBER"), ("}",))
        return found | self.row(at, ("{",), ("NAME",), ("->",), ("NAME",), ("}",))


def can_begin(tokens):
    """Returns whether a query can begin with these tokens."""
    grammar = Grammar(tokens)
    grammar.query(0)
    return grammar.came_to_end


def expected_position(tokens, places, end):
    """Returns the position that InvalidSyntax has, or None for the tokens of a query."""
    for number, place in enumerate(places):
        if not can_begin(tokens[:number + 1]):
            return place
    return None if len(tokens) in Grammar(tokens).query(0) else end


class LanguageCase(unittest.TestCase):
    def refused(self, error, field, value, text, known=KNOWN):
        with self.subTest(text=text), self.assertRaises(error) as caught:
            parse_query(text, known)
        self.assertIs(type(caught.exception), error)
        self.assertEqual(getattr(caught.exception, field), value)

    def means(self, text, query, written):
        with self.subTest(text=text):
            self.assertEqual(parse_query(text, KNOWN), query)
            self.assertEqual(format_query(query), written)
            self.assertEqual(parse_query(written, KNOWN), query)


class QueriesTest(LanguageCase):
    def test_each_operator_and_suffix(self):
        for text, query, written in (
            ("a", A, "a"), ("  a ", A, "a"), ("(((a)))", A, "a"), ("a&b", A & B, "a & b"), ("a|b", A | B, "a | b"), ("a-b", A - B, "a - b"), ("a [b]", A["b"], "a[b]"),
            ("a[b,a]", A["b", "a"], "a[b, a]"), ("a [ b , a ] [a]", A["b", "a"]["a"], "a[b, a][a]"), ("a{b=x}", A.where("b", "=", "x"), "a{b = x}"),
            ("a{b!=x}", A.where("b", "!=", "x"), "a{b != x}"), ("a { b -> x }", A.renamed("b", "x"), "a{b -> x}"), ("a{b->b}", A.renamed("b", "b"), "a{b -> b}"),
            ("closure(a)", A.closure(), "closure(a)"), ("closure ( ( a ) )", A.closure(), "closure(a)"), ("n{n<3}", N.where("n", "<", 3), "n{n < 3}"),
            ("n{n<=30}", N.where("n", "<=", 30), "n{n <= 30}"), ("n{n>0}", N.where("n", ">", 0), "n{n > 0}"), ("n{n>=10}", N.where("n", ">=", 10), "n{n >= 10}"),
            ("n{n=0}", N.where("n", "=", 0), "n{n = 0}"), ("n{n!=7}{a=n}", N.where("n", "!=", 7).where("a", "=", "n"), "n{n != 7}{a = n}"),
            (f"n{{n<{'9' * 60}}}", N.where("n", "<", 10 ** 60 - 1), f"n{{n < {'9' * 60}}}"),
        ):
            self.means(text, query, written)

    def test_which_operator_goes_first(self):
        for text, query, written in (
            ("a & b - c", (A & B) - C, "a & b - c"), ("a - b & c", A - (B & C), "a - b & c"), ("a | b - c", A | (B - C), "a | b - c"), ("a - b | c", (A - B) | C, "a - b | c"),
            ("a & b | c", (A & B) | C, "a & b | c"), ("a | b & c", A | (B & C), "a | b & c"), ("a - b - c", (A - B) - C, "a - b - c"), ("a - (b - c)", A - (B - C), "a - (b - c)"),
            ("a | b | c", (A | B) | C, "a | b | c"), ("a | (b | c)", A | (B | C), "a | (b | c)"), ("a & b & c", (A & B) & C, "a & b & c"), ("a & (b & c)", A & (B & C), "a & (b & c)"),
            ("(a | b) & c", (A | B) & C, "(a | b) & c"), ("(a - b) & c", (A - B) & C, "(a - b) & c"), ("(a | b) - c", (A | B) - C, "(a | b) - c"), ("a - (b | c)", A - (B | C), "a - (b | c)"),
            ("a & (b | c)", A & (B | C), "a & (b | c)"), ("a & (b - c)", A & (B - C), "a & (b - c)"), ("(a & b)[a]", (A & B)["a"], "(a & b)[a]"), ("a & b[a]", A & B["a"], "a & b[a]"),
            ("(a-b){a=x}", (A - B).where("a", "=", "x"), "(a - b){a = x}"), ("closure(a-b)[a]", (A - B).closure()["a"], "closure(a - b)[a]"), ("closure(a | b) | c", (A | B).closure() | C, "closure(a | b) | c"),
            ("((a)|(b))|(c)", (A | B) | C, "a | b | c"),
        ):
            self.means(text, query, written)

    def test_names_that_are_words_of_the_language(self):
        for text, query, written in (
            ("closure", D, "closure"), ("(closure)", D, "closure"), ("closure[a]", D["a"], "closure[a]"), ("closure{a->closure}", D.renamed("a", "closure"), "closure{a -> closure}"),
            ("closure{a=closure}", D.where("a", "=", "closure"), "closure{a = closure}"), ("closure(closure)", D.closure(), "closure(closure)"), ("closure & closure", D & D, "closure & closure"),
            ("closure(closure(closure))", D.closure().closure(), "closure(closure(closure))"), ("closure - closure (a)", D - A.closure(), "closure - closure(a)"),
            ("(closure | a)[a]", (D | A)["a"], "(closure | a)[a]"),
        ):
            self.means(text, query, written)
        words = (("closure", "word"), ("in", "word"), ("row", "number"), ("not", "word"))
        known = {name: source(name, words) for name in ("closure", "where", "row", "in", "columns", "join")}
        for name in known:
            for text in (name, f"{name}[closure, in]", f"{name}{{closure != not}}{{row = 3}}", f"{name}{{in -> closurex}}", f"closure({name}[not, in])", f"{name} | {name}"):
                self.assertEqual(format_query(parse_query(text, known)), text)

    def test_drawn_queries(self):
        for seed in range(600):
            chance = Random(seed)
            sources = drawn_sources(chance)
            query = drawn_query(chance, sources, 6)
            known = {each.parts()[1]: each for each in sources}
            text = format_query(query)
            with self.subTest(seed=seed, text=text):
                self.assertEqual(parse_query(text, known), query)
                self.assertEqual(parse_query(plain_text(query, chance), known), query)
                self.assertRegex(re.sub(r" (&|\||->|-|!=|<=|>=|=|<|>) |, ", "", text), r"\A[a-z0-9()\[\]{}]*\Z")
                tight = text.replace(" ", "")
                self.assertEqual(parse_query(tight, known), query)
                self.assertEqual(parse_query(re.sub(r"([^a-z0-9<>=!-])", r"  \1   ", text), known), query)

    def test_no_pair_of_brackets_can_be_left_out(self):
        for seed in range(600):
            chance = Random(seed)
            sources = drawn_sources(chance)
            query = drawn_query(chance, sources, 6)
            known = {each.parts()[1]: each for each in sources}
            text = format_query(query)
            for first, last in bracket_pairs(text):
                other = text[:first] + text[first + 1:last] + text[last + 1:]
                with self.subTest(text=text, other=other):
                    try:
                        self.assertNotEqual(parse_query(other, known), query)
                    except (InvalidSyntax, InvalidQuery, UnknownStream, MixedUse):
                        pass

    def test_spaces_of_texts(self):
        query = ((A - B)["b", "a"].where("a", "!=", "x").renamed("b", "c") & N.where("n", "<=", 3)) | (A - B)["b", "a"].renamed("b", "c").closure() & N
        self.assertEqual(format_query(query), "(a - b)[b, a]{a != x}{b -> c} & n{n <= 3} | closure((a - b)[b, a]{b -> c}) & n")

    def test_names_stand_for_queries(self):
        known = {"x": A - B, "y": (A | C).where("a", "=", "z"), "closure": A.closure()}
        self.assertEqual(parse_query("x & y", known), (A - B) & (A | C).where("a", "=", "z"))
        self.assertEqual(format_query(parse_query("x & y", known)), "(a - b) & (a | c){a = z}")
        self.assertEqual(format_query(parse_query("y - closure(closure)", {**known, "closure": B.closure()})), "(a | c){a = z} - closure(closure(b))")
        self.assertEqual(known["x"], A - B)

    def test_deep_texts(self):
        self.assertEqual(parse_query("(" * 60 + "a" + ")" * 60, KNOWN), A)
        query = A
        for _ in range(39):
            query = query.closure()
        self.assertEqual(parse_query(format_query(query), KNOWN), query)
        query = A
        for _ in range(30):
            query = B | query
        self.assertEqual(format_query(query), "b | (" * 29 + "b | a" + ")" * 29)
        self.assertEqual(parse_query(format_query(query), KNOWN), query)

    def test_by_name(self):
        self.assertEqual(parse_query(known=KNOWN, text="a"), A)
        self.assertEqual(format_query(query=A), "a")


class SyntaxTest(LanguageCase):
    def test_texts_that_are_no_queries(self):
        for text, position in (
            ("", 0), ("   ", 3), (")", 0), ("a)", 1), ("(a", 2), ("( a", 3), ("(", 1), ("()", 1), ("closure(", 8), ("closure()", 8), ("closure(a", 9), ("a b", 2), ("a  b", 3), ("a(b)", 1), ("a closure", 2),
            ("a closure(b)", 2), ("b closure (a)", 2), ("a &", 3), ("a & ", 4), ("& a", 0), ("a & | b", 4), ("a - - b", 4), ("a -> b", 2), ("a->b", 1), ("a--b", 2), ("a = b", 2), ("3", 0), ("a & 3", 4), ("a 3", 2), ("a,b", 1),
            ("a[", 2), ("a[]", 2), ("a[b", 3), ("a[b,", 4), ("a[b,]", 4), ("a[,b]", 2), ("a[b a]", 4), ("a[3]", 2), ("a[b)", 3), ("[b]", 0), ("a[b]]", 4), ("a{", 2), ("a{}", 2), ("a{b}", 3), ("a{b", 3), ("a{b=", 4), ("a{b=}", 4),
            ("a{b=x", 5), ("a{b==x}", 4), ("a{b=x=y}", 5), ("a{b=x,}", 5), ("a{=x}", 2), ("a{3=x}", 2), ("a{b - x}", 4), ("a{b->}", 5), ("a{b->3}", 5), ("a{b->c->d}", 6), ("a{b<->c}", 4), ("a{b-->c}", 3), ("a{b - >c}", 4),
            ("a{b! =c}", 3), ("a{b!c}", 3), ("a!", 1), ("a!=b", 1), ("!", 0), ("a{b!==c}", 5), ("a{b=!=c}", 4), ("a{b<=>c}", 5), ("a{b=<c}", 4), ("n{n=03}", 4), ("n{n=00}", 4), ("n{n=0 0}", 6), ("n{n=3a}", 5), ("n{n=-3}", 4), ("n{n=+3}", 4),
            ("007", 0), ("a & 00", 4), ("A", 0), ("aB", 1), ("a_b", 1), ("a1", 1), ("a.b", 1), ("a;", 1), ("a#", 1), ("a\n", 1), ("\na", 0), ("a\t", 1), ("a & \n b", 4), ("a*", 1), ("a + b", 2), ("'a'", 0), ("a[b]c", 4), ("a{b=x}c", 6),
            ("(a)b", 3), ("(a)(b)", 3), ("(a)3", 3), ("(a))", 3), ("((a)", 4), ("a]", 1), ("a}", 1), ("(a]", 2), ("a[b}", 3), ("a{b=x]", 5), ("closure[", 8), ("closure(a) closure", 11), ("a B )", 2), ("a & (b | c", 10), ("a <- b", 2),
        ):
            self.refused(InvalidSyntax, "position", position, text)

    def test_drawn_tokens(self):
        chance = Random(12)
        words = ["a", "b", "closure", "closure", "3", "0"] + SIGNS + ["(", ")", "a", "&", "-", "[", "]", "{", "}"]
        right = 0
        for _ in range(6000):
            tokens = [chance.choice(words) for _ in range(chance.randrange(9))]
            right += self.judge(tokens, chance)
        self.assertGreater(right, 50)

    def test_good_texts_with_another_token(self):
        chance = Random(13)
        texts = ["a [ a , b ] { a = b } & closure ( b - c ) | ( closure | c )", "( ( a - b ) { a -> c } [ c ] )", "closure ( closure ( a ) ) { a != closure } & b"]
        for text in texts:
            tokens = text.split()
            for at, other in product(range(len(tokens) + 1), ["a", "closure", "7"] + SIGNS):
                self.judge(tokens[:at] + [other] + tokens[at:], chance)
                self.judge(tokens[:at] + [other] + tokens[at + 1:], chance)
                self.judge(tokens[:at], chance)
                self.judge(tokens[:at] + tokens[at + 1:], chance)

    def judge(self, tokens, chance):
        """The position is the one that the rules of the document give; returns whether there is none."""
        text, places = " " * chance.randrange(2), []
        for token in tokens:
            places.append(len(text))
            text += token + " " * chance.randrange(1, 3)
        expected = expected_position(tokens, places, len(text))
        with self.subTest(text=text):
            try:
                parse_query(text, {})
                found = None
            except InvalidSyntax as error:
                found = error.position
            except UnknownStream as error:
                found = None
                self.assertEqual(error.stream, [token for token, after in zip(tokens, tokens[1:] + [""]) if token.isalpha() and (token, after) != ("closure", "(")][0])
            self.assertEqual(found, expected)
        return expected is None


class ErrorsTest(LanguageCase):
    def test_no_texts(self):
        for value in NO_TEXTS:
            with self.assertRaises(InvalidText) as caught:
                parse_query(value, KNOWN)
            self.assertIs(caught.exception.value, value)

    def test_unknown_names(self):
        for text, name in (
            ("x", "x"), ("a - x | y", "x"), ("a - (y | x)", "y"), ("closure(x)", "x"), ("a[x]{x -> y} & y", "y"), ("a{b = x} - z{a = y}", "z"), ("closurea", "closurea"), ("(a)[q] & (q)", "q"),
            ("a - a - x", "x"), ("n - a - y", "y"), ("a[z] | x{n < n}", "x"),
        ):
            self.refused(UnknownStream, "stream", name, text)
        self.refused(UnknownStream, "stream", "closure", "closure(closure)", {"a": A})
        self.refused(UnknownStream, "stream", "a", "a", {})

    def test_errors_of_the_operators(self):
        for text, error, field, value in (
            ("a{x = y}", InvalidQuery, "value", "x"), ("a{a < y}", InvalidQuery, "value", "<"), ("a{a = 3}", InvalidQuery, "value", 3), ("n{n = three}", InvalidQuery, "value", "three"),
            ("a{x < 3}", InvalidQuery, "value", "x"), ("a{a < 3}", InvalidQuery, "value", "<"), ("a[a, a]", InvalidQuery, "value", ("a", "a")), ("a[a, x]", InvalidQuery, "value", ("a", "x")),
            ("a{x -> y}", InvalidQuery, "value", "x"), ("a{a -> b}", InvalidQuery, "value", "b"), ("a | n", InvalidQuery, "value", N), ("a - n", InvalidQuery, "value", N), ("n - a{a = x}", InvalidQuery, "value", A.where("a", "=", "x")),
            ("closure(n)", InvalidQuery, "value", N), ("closure(a[a])", InvalidQuery, "value", A["a"]), ("a & n{a -> b}", None, None, None), ("a - a", MixedUse, "stream", "a"), ("a - b - (c - (b | a))", MixedUse, "stream", "b"),
        ):
            if error is None:
                self.assertEqual(parse_query(text, KNOWN), A & N.renamed("a", "b"))
            else:
                self.refused(error, field, value, text)

    def test_errors_in_their_order(self):
        for text, error, field, value in (
            ("x - (y", InvalidSyntax, "position", 6), ("a{x = y} & 3", InvalidSyntax, "position", 11), ("a - a - x", UnknownStream, "stream", "x"), ("a{x = y} - z", UnknownStream, "stream", "z"),
            ("a[x] - b[y]", InvalidQuery, "value", ("x",)), ("(a - b[y]) - c[z]", InvalidQuery, "value", ("y",)), ("a - b[y][z]", InvalidQuery, "value", ("y",)), ("(a - a)[x]", MixedUse, "stream", "a"),
            ("(a - a) - n[x]", MixedUse, "stream", "a"), ("n[x] - (a - a)", InvalidQuery, "value", ("x",)), ("n - (a - a)", MixedUse, "stream", "a"), ("a | b[y] & c[z]", InvalidQuery, "value", ("y",)),
            ("n | a - a", MixedUse, "stream", "a"), ("a - a | n", MixedUse, "stream", "a"), ("closure(n)[x]", InvalidQuery, "value", N), ("a{y -> x}{z = x}", InvalidQuery, "value", "y"),
            ("a & b & c[z] | b[y]", InvalidQuery, "value", ("z",)),
        ):
            self.refused(error, field, value, text)


if __name__ == "__main__":
    unittest.main()
