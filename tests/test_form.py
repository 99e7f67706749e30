"""The form of the code: the rules of the language that are easily seen, file by file."""

import ast
import builtins
import os
import re
import unittest

ROOT = os.path.dirname(os.path.dirname(os.path.abspath(__file__)))
PACKAGE = os.path.join(ROOT, "surestreams")
LIBRARY = {
    "heapq": {"heappush", "heappop", "heapify", "heapreplace", "heappushpop"},
    "math": {"gcd", "lcm", "isqrt", "comb", "perm", "factorial"},
    "itertools": {
        "product", "combinations", "permutations", "chain", "accumulate", "pairwise", "islice", "zip_longest",
    },
    "collections": {"defaultdict", "deque"},
}
BUILTINS = set(
    "len range enumerate zip min max sum abs sorted reversed int str bool bytes list tuple dict set isinstance ord repr "
    "any all divmod pow iter next map getattr hasattr setattr type super property staticmethod classmethod Exception "
    "ValueError TypeError KeyError IndexError LookupError ZeroDivisionError ArithmeticError OverflowError RuntimeError "
    "NotImplementedError NotImplemented".split()
)
# doctest, in other tests, lets Python define the name _ there.
BUILTIN_NAMES = set(dir(builtins)) - {"_"}
STATEMENTS = (ast.FunctionDef, ast.ClassDef, ast.ImportFrom, ast.Assign, ast.AnnAssign)
BARRED_NODES = (
    ast.AsyncFunctionDef, ast.Await, ast.AsyncFor, ast.AsyncWith, ast.Import, ast.Div, ast.MatMult,
)
BARRED_WORDS = re.compile(
    r"\b(type|typing|enum|Enum|IntEnum|Flag|Generic|Protocol|ABC|ABCMeta|namedtuple|NamedTuple|abstractmethod|eval|exec"
    r"|globals|locals|vars|dir|open|input|id|hash|print|chr|float|object)\b"
)


def sources():
    """Returns a dict from the names of the files of the package to their texts."""
    found = {}
    for name in sorted(os.listdir(PACKAGE)):
        if name != "__pycache__":
            with open(os.path.join(PACKAGE, name), encoding="utf-8", newline="") as file:
                found[name] = file.read()
    return found


def nodes(*kinds):
    """Returns the pairs (file, node) of all nodes of these kinds."""
    return [
        (name, node) for name, text in sources().items() for node in ast.walk(ast.parse(text)) if isinstance(node, kinds)
    ]


def bound_names():
    """Returns the pairs (file, name) of all names that something is called by."""
    found = [(name, node.arg) for name, node in nodes(ast.arg)]
    found += [(name, node.id) for name, node in nodes(ast.Name) if isinstance(node.ctx, ast.Store)]
    found += [(name, node.name) for name, node in nodes(ast.ClassDef)]
    for name, text in sources().items():
        found += [(name, node.name) for node in ast.parse(text).body if isinstance(node, ast.FunctionDef)]
    return found


def parents(tree):
    """Returns a dict from the nodes of a tree to the nodes that they stand in."""
    return {child: node for node in ast.walk(tree) for child in ast.iter_child_nodes(node)}


def called(node):
    """Returns the name of the function or method that a node calls, or None."""
    if not isinstance(node, ast.Call):
        return None
    return getattr(node.func, "id", None) or getattr(node.func, "attr", None)


def is_in(node, parent, names):
    """Returns whether a node stands after the in of a loop, or in the call of one of some functions."""
    if isinstance(parent, (ast.For, ast.comprehension)):
        return parent.iter is node
    return called(parent) in names and isinstance(parent.func, ast.Name)


def properties():
    """Returns the names of all properties."""
    return {
        node.name for _, node in nodes(ast.FunctionDef)
        if any(isinstance(each, ast.Name) and each.id == "property" for each in node.decorator_list)
    }


class FormTest(unittest.TestCase):
    def test_files(self):
        self.assertIn("__init__.py", sources())
        for name in sources():
            self.assertRegex(name, r"\A[a-z0-9_]+\.py\Z")

    def test_sizes(self):
        for name, text in sources().items():
            lines = text.split("\n")
            self.assertLessEqual(len(lines), 400, name)
            self.assertLessEqual(max(len(line) for line in lines), 120, name)
            self.assertEqual(lines[-1], "", name)
        for name, node in nodes(ast.FunctionDef):
            self.assertLessEqual(node.end_lineno - node.lineno + 1, 40, (name, node.name))

    def test_characters(self):
        for name, text in sources().items():
            self.assertRegex(text, r"\A[ -~\n]*\Z", name)

    def test_imports(self):
        for name, node in nodes(ast.ImportFrom):
            words = {each.name for each in node.names}
            with self.subTest(name, words=words):
                self.assertEqual(node.level, 0)
                if not node.module.startswith("surestreams."):
                    self.assertLessEqual(words, LIBRARY.get(node.module, set()))
                    continue
                defined = ast.parse(sources()[node.module.split(".")[1] + ".py"]).body
                names = {getattr(each, "name", None) for each in defined}
                names |= {each.targets[0].id for each in defined if isinstance(each, ast.Assign)}
                self.assertLessEqual(words, names)

    def test_module_level(self):
        for name, text in sources().items():
            body = ast.parse(text).body
            self.assertIsNotNone(ast.get_docstring(ast.parse(text)), name)
            self.assertTrue(all(isinstance(node, STATEMENTS) for node in body[1:]), name)

    def test_nodes(self):
        self.assertEqual(nodes(*BARRED_NODES), [])
        numbers = [node.value for _, node in nodes(ast.Constant) if isinstance(node.value, (float, complex))]
        self.assertEqual(numbers, [])

    def test_builtins(self):
        known = BUILTIN_NAMES
        for name, node in nodes(ast.Name):
            if node.id in known:
                self.assertIn(node.id, BUILTINS, (name, node.lineno))

    def test_names(self):
        known = BUILTIN_NAMES
        for name, bound in bound_names():
            self.assertNotIn(bound, known, name)
            self.assertRegex(bound, r"\A(_|_?[A-Za-z][A-Za-z0-9_]*)\Z", name)

    def test_words(self):
        for name, text in sources().items():
            for node in ast.walk(ast.parse(text)):
                word = getattr(node, "id", None) or getattr(node, "attr", None)
                if isinstance(word, str) and word != "type":
                    self.assertIsNone(BARRED_WORDS.fullmatch(word), (name, word))

    def test_iterated_at_once(self):
        takers = "list tuple dict sorted sum any all enumerate zip min max len".split()
        for name, text in sources().items():
            tree = ast.parse(text)
            above = parents(tree)
            for node in ast.walk(tree):
                if called(node) in ("zip", "enumerate", "range", "reversed", "items", "keys", "values", "rewrites", "feed"):
                    self.assertTrue(is_in(node, above[node], takers), (name, node.lineno))

    def test_sets(self):
        for name, text in sources().items():
            tree = ast.parse(text)
            above = parents(tree)
            for node in ast.walk(tree):
                if isinstance(node, (ast.Set, ast.SetComp)) or called(node) == "set":
                    parent = above[node]
                    parent = above[parent] if isinstance(parent, ast.BinOp) else parent
                    good = isinstance(parent, (ast.Compare, ast.Assign)) or called(parent) in ("sorted", "len")
                    self.assertTrue(good, (name, node.lineno))

    def test_lists_instead_of_generator_expressions(self):
        self.assertEqual(nodes(ast.GeneratorExp), [])

    def test_imports_are_used_and_name_nothing_else(self):
        for name, text in sources().items():
            tree = ast.parse(text)
            imported = {each.name for node in ast.walk(tree) if isinstance(node, ast.ImportFrom) for each in node.names}
            names = [node for node in ast.walk(tree) if isinstance(node, ast.Name)]
            self.assertEqual(imported - {node.id for node in names}, set(), name)
            bound = {node.id for node in names if isinstance(node.ctx, ast.Store)}
            bound |= {node.arg for node in ast.walk(tree) if isinstance(node, ast.arg)}
            bound |= {node.name for node in ast.walk(tree) if isinstance(node, (ast.FunctionDef, ast.ClassDef))}
            self.assertEqual(imported & bound, set(), name)

    def test_no_circles_of_imports(self):
        needs = {}
        for name, node in nodes(ast.ImportFrom):
            needs.setdefault(name[:-3], set()).add(node.module.split(".")[-1])
        while needs:
            free = [name for name in needs if not needs[name] & set(needs)]
            self.assertTrue(free, needs)
            needs = {name: others for name, others in needs.items() if name not in free}

    def test_properties_and_methods_are_not_assigned(self):
        methods = {each.name for _, node in nodes(ast.ClassDef) for each in node.body if isinstance(each, ast.FunctionDef)}
        assigned = {node.attr for _, node in nodes(ast.Attribute) if isinstance(node.ctx, ast.Store)}
        self.assertEqual(assigned & (methods | properties()), set())

    def test_functions_and_classes_have_docstrings(self):
        for name, node in nodes(ast.FunctionDef, ast.ClassDef):
            if node.name not in ("__init__", "__iter__"):
                self.assertIsNotNone(ast.get_docstring(node), (name, node.name))


if __name__ == "__main__":
    unittest.main()
