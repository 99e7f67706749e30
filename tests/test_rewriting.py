"""Points 2, 3 (i) and 12: rules, rewritings and pushed conditions."""

import unittest

from surestreams.engine import Engine
from surestreams.queries import Query, source
from surestreams.rewriting import is_rewriting, pushed, rewrites
from tests.plain import drawn_history

PAIR = (("a", "word"), ("b", "word"))
A, B, C, D = [source(name, PAIR) for name in "stuv"]
E = source("e", (("b", "word"), ("c", "number")))


def kept(query):
    """Returns a query with a condition."""
    return query.where("a", "=", "x")


def rules(query):
    """Returns the pairs (rule, path) in the order in which they come."""
    return [(rule, path) for rule, path, _ in rewrites(query)]


def parts_at(query, path=()):
    """Returns a dict from paths to the parts of a query."""
    found = {path: query}
    for at, part in enumerate([part for part in query.parts() if isinstance(part, Query)]):
        found.update(parts_at(part, path + (at,)))
    return found


def beside(query, path):
    """Returns a dict from paths to the parts that neither are in the part at a path nor have it in them."""
    return {
        at: part for at, part in parts_at(query).items() if at[:len(path)] != path and path[:len(at)] != at
    }


def changed(query):
    """Returns a dict from rules to what they make of a query itself, read word by word from the document."""
    kind, *rest = query.parts()
    found = {}
    inner = rest[0].parts() if kind != "source" else ()
    if kind == "where":
        condition = rest[1:]
        if inner[0] == "union":
            found[1] = inner[1].where(*condition) | inner[2].where(*condition)
        if inner[0] == "minus":
            found[2] = inner[1].where(*condition) - inner[2]
        if inner[0] == "join":
            inside = condition[0] in [name for name, _ in inner[1].columns]
            found[3] = inner[1].where(*condition) & inner[2] if inside else inner[1] & inner[2].where(*condition)
        if inner[0] == "columns":
            found[4] = inner[1].where(*condition)[inner[2]]
    if kind == "columns":
        if inner[0] == "columns":
            found[5] = inner[1][rest[1]]
        if inner[0] == "union":
            found[6] = inner[1][rest[1]] | inner[2][rest[1]]
    if kind == "minus":
        if rest[1].parts()[0] == "union":
            found[7] = (rest[0] - rest[1].parts()[1]) - rest[1].parts()[2]
        if inner[0] == "union":
            found[8] = (inner[1] - rest[1]) | (inner[2] - rest[1])
    if kind == "union" and rest[0] == rest[1]:
        found[9] = rest[0]
    return found


def all_rewrites(query):
    """Returns a dict from pairs of a rule and a path to results, by the document's words."""
    return {(rule, path): made for path, part in parts_at(query).items() for rule, made in changed(part).items()}


class RulesTest(unittest.TestCase):
    def becomes(self, query, rule, result):
        self.assertEqual(list(rewrites(query)), [(rule, (), result)])

    def test_each_rule(self):
        self.becomes(kept(A | B), 1, kept(A) | kept(B))
        self.becomes(kept(A - B), 2, kept(A) - B)
        self.becomes(kept(A & E), 3, kept(A) & E)
        self.becomes((A & E).where("b", "!=", "x"), 3, A.where("b", "!=", "x") & E)
        self.becomes((A & E).where("c", "<", 5), 3, A & E.where("c", "<", 5))
        self.becomes(kept(A["b", "a"]), 4, kept(A)["b", "a"])
        self.becomes(A["b", "a"]["a"], 5, A["a"])
        self.becomes((A | B)["b"], 6, A["b"] | B["b"])
        self.becomes(A - (B | C), 7, (A - B) - C)
        self.becomes((A | B) - C, 8, (A - C) | (B - C))
        self.becomes(A | A, 9, A)

    def test_several_rules_at_one_place(self):
        query = (A | B) - (C | D)
        self.assertEqual(list(rewrites(query)), [
            (7, (), ((A | B) - C) - D), (8, (), (A - (C | D)) | (B - (C | D))),
        ])

    def test_no_rule(self):
        for query in (
            A, kept(A), kept(kept(A)), A["a"], A.renamed("a", "c"), A & A, A | B, A - B, A.closure(), A.closure().closure(),
            kept(A.closure()), kept(A.renamed("b", "c")), A.closure()["a"], (A & B)["a"], (A - B)["a"], A.renamed("a", "c")["b"],
            kept(A)["a"], (A | B).closure(), A - (B - C), A - (B & C), (A & B) - C, kept(A) | A, (A | B) | C, A | (B | A),
            A["a"] | A["b"].renamed("b", "a"), (A | B).renamed("a", "c"), (A | B) & C,
        ):
            with self.subTest(query=query.parts()):
                self.assertEqual(list(rewrites(query)), [])

    def test_parts_of_both_sides(self):
        inner = A | A
        for query, path, result in (
            (inner & B, (0,), A & B), (B & inner, (1,), B & A), (inner | B, (0,), A | B), (B | inner, (1,), B | A),
            (B - inner.where("a", "=", "x"), (1, 0), B - kept(A)), (inner.closure(), (0,), A.closure()),
            (inner.renamed("a", "c"), (0,), A.renamed("a", "c")), ((inner & B)["a"], (0, 0), (A & B)["a"]),
            (inner.closure() & (B & C), (0, 0), A.closure() & (B & C)), ((B & C) & inner.closure(), (1, 0), (B & C) & A.closure()),
            ((inner - B).renamed("a", "d"), (0, 0), (A - B).renamed("a", "d")),
        ):
            with self.subTest(query=query.parts()):
                self.assertIn((9, path, result), list(rewrites(query)))

    def test_paths_before_rules(self):
        query = kept((A | A) - (B | C)) | kept((A | A) - (B | C))
        self.assertEqual(rules(query), [
            (9, ()), (2, (0,)), (7, (0, 0)), (8, (0, 0)), (9, (0, 0, 0)), (2, (1,)), (7, (1, 0)), (8, (1, 0)), (9, (1, 0, 0)),
        ])

    def test_drawn_queries(self):
        found = set()
        for seed in range(400):
            _, query, _ = drawn_history(seed, 7, 0)
            expected = all_rewrites(query)
            with self.subTest(seed=seed):
                self.assertEqual(rules(query), sorted(expected, key=lambda pair: pair[::-1]))
                for rule, path, result in rewrites(query):
                    found.add(rule)
                    part = parts_at(query)[path]
                    self.assertEqual(parts_at(result)[path], changed(part)[rule])
                    self.assertEqual(beside(result, path), beside(query, path))
                    self.assertEqual((result.columns, result.streams()), (query.columns, query.streams()))
        self.assertEqual(found, set(range(1, 10)))

    def test_a_generator_of_tuples(self):
        found = rewrites(query=kept(A | B))
        self.assertEqual(next(iter(found)), (1, (), kept(A) | kept(B)))
        self.assertEqual(list(found), [])


class ResultsTest(unittest.TestCase):
    def test_each_step_keeps_what_is_given_out(self):
        steps = 0
        for seed in range(220):
            chance, query, events = drawn_history(seed, 6, 14)
            chain = [query]
            while len(chain) < 4 and list(rewrites(chain[-1])):
                chain.append(chance.choice(list(rewrites(chain[-1])))[2])
            steps += len(chain) - 1
            given = list(Engine(query).feed(events))
            for other in chain[1:] + [pushed(query)]:
                engine = Engine(other)
                with self.subTest(seed=seed):
                    self.assertEqual(list(engine.feed(events)), given)
                    self.assertEqual(engine.waiting(), Engine.replayed(query, events).waiting())
        self.assertGreater(steps, 100)


class RewritingTest(unittest.TestCase):
    CHAIN = [
        kept((A | B) - (C | D)),
        kept((A | B)) - (C | D),
        (kept(A) | kept(B)) - (C | D),
        ((kept(A) | kept(B)) - C) - D,
        ((kept(A) - C) | (kept(B) - C)) - D,
    ]

    def test_chains(self):
        for query in self.CHAIN + [A, kept(A)]:
            self.assertIs(is_rewriting([query]), True)
        for first in range(5):
            for last in range(first + 1, 6):
                self.assertIs(is_rewriting(self.CHAIN[first:last]), True)
        self.assertIs(is_rewriting(value=self.CHAIN), True)

    def test_missing_doubled_and_exchanged_queries(self):
        chain = self.CHAIN
        for value in (
            chain[:1] + chain[2:], chain[:2] + chain[3:], chain[:2] + chain[1:], chain[:1] * 2, chain[::-1], chain[1:2] + chain[:1],
            chain[:1] + chain[2:0:-1], chain + [A], [A] + chain, chain[:2] + [A] + chain[2:], [A, A], [A, B],
            [A | B, A], [A | A, B], [A, A | A], [kept(A | B), kept(A) | B], [kept(A | B), kept(B) | kept(A)],
        ):
            self.assertIs(is_rewriting(value), False)

    def test_values_of_other_kinds(self):
        for value in (
            None, True, 0, "ab", (), (A,), tuple(self.CHAIN), {}, {0: A}, A, Query, object(), [], [None], [[A]], [A, None],
            [None, A], self.CHAIN + [None], self.CHAIN[:2] + ["x"] + self.CHAIN[2:], [A.parts()], [(A,)], [3, 4], [(9, (), A)],
            list(rewrites(self.CHAIN[0])),
        ):
            with self.subTest(value=value):
                self.assertIs(is_rewriting(value), False)

    def test_drawn_chains(self):
        for seed in range(150):
            chance, query, _ = drawn_history(seed, 7, 0)
            chain = [query]
            while len(chain) < 5 and list(rewrites(chain[-1])):
                chain.append(chance.choice(list(rewrites(chain[-1])))[2])
            with self.subTest(seed=seed):
                self.assertIs(is_rewriting(chain), True)
                if len(chain) > 2:
                    shorter = chain[:1] + chain[2:]
                    arises = chain[2] in [result for _, _, result in rewrites(query)]
                    self.assertIs(is_rewriting(shorter), arises)
                self.assertIs(is_rewriting(chain + [source("other", PAIR)]), False)

    def test_the_argument_does_not_change(self):
        chain = list(self.CHAIN)
        is_rewriting(chain)
        self.assertEqual(chain, self.CHAIN)


class PushedTest(unittest.TestCase):
    def test_one_condition(self):
        for query, result in (
            (kept(A | B), kept(A) | kept(B)), (kept(A - B), kept(A) - B), (kept(A & E), kept(A) & E), (kept(A["a"]), kept(A)["a"]),
            (kept((A | B)["a", "b"] - (C & D)), (kept(A) | kept(B))["a", "b"] - (C & D)), (kept(A.closure()), kept(A.closure())),
            (kept(kept(A - B) | C), (kept(kept(A)) - B) | kept(C)), (A - kept(B - C), A - (kept(B) - C)),
            (kept(A | B).closure(), (kept(A) | kept(B)).closure()), (kept(A.renamed("b", "c")), kept(A.renamed("b", "c"))),
            (kept(A | B).renamed("a", "c").where("c", "=", "y"), (kept(A) | kept(B)).renamed("a", "c").where("c", "=", "y")), (A, A),
        ):
            with self.subTest(query=query.parts()):
                self.assertEqual(pushed(query), result)
        self.assertEqual(pushed(query=A), A)

    def test_several_conditions_one_behind_the_other(self):
        query = (A & E).where("c", "<", 5).where("a", "=", "x").where("b", "!=", "y").where("c", ">", 1)
        self.assertEqual(pushed(query), A.where("a", "=", "x").where("b", "!=", "y") & E.where("c", "<", 5).where("c", ">", 1))
        query = ((A | B) - C).where("a", "=", "x").where("b", "=", "y")
        self.assertEqual(pushed(query), (
            A.where("a", "=", "x").where("b", "=", "y") | B.where("a", "=", "x").where("b", "=", "y")
        ) - C)

    def test_other_rules_are_not_used(self):
        query = kept(((A | A)["a", "b"]["b", "a"]) - (B["b", "a"] | C["b", "a"]))
        self.assertEqual(pushed(query), (kept(A) | kept(A))["a", "b"]["b", "a"] - (B["b", "a"] | C["b", "a"]))

    def test_drawn_queries(self):
        conditions = 0
        for seed in range(400):
            chance, query, _ = drawn_history(seed, 7, 0)
            for name, kind in query.columns:
                query = query.where(name, "!=", "a" if kind == "word" else 2)
            chain = [query]
            while True:
                nexts = [result for rule, _, result in rewrites(chain[-1]) if rule <= 4]
                if not nexts:
                    break
                chain.append(chance.choice(nexts))
            conditions += len(chain) - 1
            with self.subTest(seed=seed):
                self.assertEqual(pushed(query), chain[-1])
                self.assertFalse([rule for rule, _ in rules(pushed(query)) if rule <= 4])
                self.assertIs(is_rewriting(chain), True)
        self.assertGreater(conditions, 300)


if __name__ == "__main__":
    unittest.main()
