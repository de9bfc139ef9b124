"""What a reader of ../shared/LANGUAGE.md can measure: sizes, signs, imports, builtins, places."""

import ast
import builtins
import unittest
from pathlib import Path

PACKAGE = Path(__file__).resolve().parent.parent / "havenorhunt"
FILES = sorted(PACKAGE.glob("**/*.py"))

# The builtins of L8 without `chr` (L27), `print` (L9), and `bytes(..)` (L7).
BUILTINS = set(
    "len range enumerate zip min max sum abs sorted reversed int str bool list tuple dict set isinstance ord"
    " repr any all divmod pow map iter next getattr hasattr setattr super property staticmethod classmethod"
    " Exception ValueError TypeError KeyError IndexError LookupError ZeroDivisionError ArithmeticError"
    " OverflowError RuntimeError NotImplementedError AttributeError StopIteration NotImplemented".split()
)

# The modules of the library that L2 lets in.
LIBRARY = ("heapq", "math", "itertools", "collections")

# The document's interface: by files the functions with their arguments, and the classes with their methods.
FUNCTIONS = {
    "graphs": {"read_graph": "text", "write_graph": "graph", "parts": "graph gone", "border": "graph nodes"},
    "plans": {
        "possible_after": "graph plan runner", "caught_at": "graph plan runner", "gives_ground": "graph plan runner",
        "searchers_of": "plan", "hunt_holds": "graph count hunt",
    },
    "orders": {"order_need": "graph order", "best_order": "graph"},
    "rooms": {
        "rooms_of": "graph order", "rooms_hold": "graph count rooms", "hunt_of": "graph rooms", "plan_of": "rooms",
    },
    "lines": {"line_need": "graph line", "best_line": "graph", "plan_of_line": "graph line"},
    "havens": {"haven": "graph count", "haven_holds": "graph count pairs"},
    "blockades": {"blockade": "graph count runner", "blockade_holds": "graph count runner pairs"},
    "needs": {
        "need": "graph runner", "best_plan": "graph runner", "decide": "graph count runner",
        "straighten": "graph plan runner",
    },
    "small": {
        "ring": "graph", "spider": "graph", "ring_holds": "graph nodes", "spider_holds": "graph found",
        "obstacle": "graph count runner",
    },
    "sentences": {
        "read_sentence": "text", "write_sentence": "sentence", "free_names": "sentence", "rank": "sentence",
    },
    "meaning": {"holds": "graph sentence sets", "holds_in": "piece sentence sets"},
    "answers": {
        "true_along": "graph rooms sentence", "count_along": "graph rooms sentence",
        "sets_along": "graph rooms sentence", "least_along": "graph rooms sentence prices",
    },
    "records": {"record": "graph rooms sentence", "record_holds": "graph rooms sentence states answer"},
    "pieces": {"alike": "first second depth", "answer": "first second picks picked depth", "glue": "first second"},
    "parting": {"parting": "first second depth"},
}
CLASSES = {
    "errors": {
        "GroundError": {}, "BadText": {}, "BadSentence": {}, "NoCatch": {}, "NotHere": {"__init__": "self what"},
    },
    "ground": {
        "Ground": {
            "__init__": "self graph", "graph": "self", "rooms": "self", "add": "self", "join": "self first second",
            "part": "self first second", "undo": "self", "need": "self runner", "is_true": "self sentence",
            "count": "self sentence",
        },
    },
}


def tree_of(path):
    return ast.parse(path.read_text(encoding="utf-8"))


def defined_in(path):
    kinds = (ast.FunctionDef, ast.ClassDef)
    body = tree_of(path).body
    values = [node.targets[0].id for node in body if isinstance(node, ast.Assign)]
    return [node.name for node in body if isinstance(node, kinds)] + values


class TestLanguage(unittest.TestCase):
    def test_the_folder_has_plain_files_only(self):
        self.assertTrue(FILES)
        for path in PACKAGE.glob("**/*"):
            if "__pycache__" not in path.parts:
                self.assertRegex(path.name, r"^[a-z_][a-z0-9_]*\.py$")

    def test_sizes_and_signs(self):
        for path in FILES:
            text = path.read_text(encoding="utf-8")
            self.assertLessEqual(len(text.splitlines()), 399, path.name)
            self.assertLessEqual(max(len(line) for line in text.splitlines()), 120, path.name)
            self.assertTrue(all(" " <= sign <= "~" or sign == "\n" for sign in text), path.name)
            for node in ast.walk(tree_of(path)):
                if isinstance(node, ast.FunctionDef):
                    self.assertLessEqual(node.end_lineno - node.lineno + 1, 40, node.name)

    def test_module_level(self):
        kinds = (ast.ImportFrom, ast.FunctionDef, ast.ClassDef, ast.Assign)
        for path in FILES:
            first, *others = tree_of(path).body
            self.assertIsInstance(first.value.value, str, path.name)
            for node in others:
                self.assertIsInstance(node, kinds, path.name)

    def test_imports_name_the_file_that_defines_the_name(self):
        for path in FILES:
            for node in ast.walk(tree_of(path)):
                self.assertNotIsInstance(node, ast.Import, path.name)
                if isinstance(node, ast.ImportFrom) and node.module not in LIBRARY:
                    package, name = node.module.split(".")
                    self.assertEqual((package, node.level), ("havenorhunt", 0))
                    for alias in node.names:
                        self.assertIn(alias.name, defined_in(PACKAGE / f"{name}.py"))

    def test_builtins(self):
        for path in FILES:
            for node in ast.walk(tree_of(path)):
                if isinstance(node, ast.Name) and hasattr(builtins, node.id):
                    self.assertIn(node.id, BUILTINS, path.name)
                    self.assertIsInstance(node.ctx, ast.Load, path.name)

    def assert_functions(self, body, wanted, where):
        found = {node.name: node for node in body if isinstance(node, ast.FunctionDef)}
        for name, words in wanted.items():
            self.assertIn(name, found, where)
            given = found[name].args
            self.assertEqual([one.arg for one in given.args], words.split(), (where, name))
            self.assertEqual((given.posonlyargs, given.vararg, given.kwonlyargs, given.kwarg), ([], None, [], None))

    def test_the_interface_stands_where_it_is_listed(self):
        for name, functions in FUNCTIONS.items():
            self.assert_functions(tree_of(PACKAGE / f"{name}.py").body, functions, name)
        for name, classes in CLASSES.items():
            found = {node.name: node for node in tree_of(PACKAGE / f"{name}.py").body if isinstance(node, ast.ClassDef)}
            for word, methods in classes.items():
                self.assertIn(word, found, name)
                self.assert_functions(found[word].body, methods, word)

    def test_properties(self):
        """They give back an attribute; nothing else has a decorator."""
        found = []
        for path in FILES:
            for node in ast.walk(tree_of(path)):
                for decorator in getattr(node, "decorator_list", []):
                    self.assertEqual(ast.unparse(decorator), "property", path.name)
                    self.assertRegex(ast.unparse(node.body[-1]), r"^return self\._[a-z]+$")
                    found.append(node.name)
        self.assertEqual(sorted(found), ["graph", "rooms"])

    def test_imports_go_one_way(self):
        imported = {}
        for path in FILES:
            nodes = [node for node in tree_of(path).body if isinstance(node, ast.ImportFrom)]
            imported[path.stem] = {node.module.split(".")[1] for node in nodes if node.module not in LIBRARY}
        while imported:
            ready = [name for name, others in imported.items() if not others & set(imported)]
            self.assertTrue(ready, imported)
            imported = {name: others for name, others in imported.items() if name not in ready}

    def test_what_the_package_does_without(self):
        """Much that the language bars, or allows in few places only."""
        barred = (
            ast.GeneratorExp, ast.Set, ast.SetComp, ast.Try, ast.With, ast.Global, ast.Nonlocal, ast.Yield,
            ast.YieldFrom, ast.AsyncFunctionDef, ast.Div, ast.MatMult, ast.Pow, ast.AnnAssign, ast.Match,
        )
        for path in FILES:
            for node in ast.walk(tree_of(path)):
                self.assertNotIsInstance(node, barred, path.name)
                if isinstance(node, ast.Constant):
                    self.assertIn(type(node.value), (int, str, bool, type(None)), path.name)
                if isinstance(node, ast.Compare) and isinstance(node.ops[0], (ast.Is, ast.IsNot)):
                    self.assertIsNone(node.comparators[0].value, path.name)

    def test_no_set_is_kept(self):
        """A class has a method `add`, so that none of a set can be called; sets stand in `sorted` and `len` only."""
        for path in FILES:
            for node in ast.walk(tree_of(path)):
                if isinstance(node, ast.Call) and ast.unparse(node.func) not in ("sorted", "len"):
                    for inner in node.args:
                        self.assertFalse(ast.unparse(inner).startswith("set("), path.name)
                if isinstance(node, (ast.Assign, ast.Return)):
                    self.assertFalse(ast.unparse(node.value).startswith("set("), path.name)
                if isinstance(node, ast.Attribute):
                    self.assertNotIn(node.attr, ("add", "discard"), path.name)


if __name__ == "__main__":
    unittest.main()
