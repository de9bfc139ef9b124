"""What a reader of ../shared/LANGUAGE.md can measure: sizes, signs, imports, builtins, places."""

import ast
import builtins
import unittest
from pathlib import Path

PACKAGE = Path(__file__).resolve().parent.parent / "havenorhunt"
FILES = sorted(PACKAGE.glob("**/*.py"))

# The builtins of L8 without `chr` (L27), `print` (L9), and `bytes(..)` (L7).
BUILTINS = set(
    "len range enumerate zip min max sum abs sorted reversed int str bool list tuple dict set isinstance ord"
    " repr any all divmod pow map iter next getattr hasattr setattr super property staticmethod classmethod"
    " Exception ValueError TypeError KeyError IndexError LookupError ZeroDivisionError ArithmeticError"
    " OverflowError RuntimeError NotImplementedError AttributeError StopIteration NotImplemented".split()
)

# The modules of the library that L2 lets in.
LIBRARY = ("heapq", "math", "itertools", "collections")

# The files and the names of the document's interface that have landed.
INTERFACE = {
    "errors": ("GroundError", "BadText", "BadSentence", "NoCatch", "NotHere"),
    "graphs": ("read_graph", "write_graph", "parts", "border"),
    "plans": ("possible_after", "caught_at", "gives_ground", "searchers_of", "hunt_holds"),
    "orders": ("order_need", "best_order"),
    "rooms": ("rooms_of", "rooms_hold", "hunt_of", "plan_of"),
    "lines": ("line_need", "best_line", "plan_of_line"),
    "havens": ("haven", "haven_holds"),
    "blockades": ("blockade", "blockade_holds"),
    "needs": ("need", "best_plan", "decide", "straighten"),
    "small": ("ring", "spider", "ring_holds", "spider_holds", "obstacle"),
    "sentences": ("read_sentence", "write_sentence", "free_names", "rank"),
    "meaning": ("holds", "holds_in"),
    "answers": ("true_along", "count_along", "sets_along", "least_along"),
}


def tree_of(path):
    return ast.parse(path.read_text(encoding="utf-8"))


def defined_in(path):
    kinds = (ast.FunctionDef, ast.ClassDef)
    return [node.name for node in tree_of(path).body if isinstance(node, kinds)]


class TestLanguage(unittest.TestCase):
    def test_the_folder_has_plain_files_only(self):
        self.assertTrue(FILES)
        for path in PACKAGE.glob("**/*"):
            if "__pycache__" not in path.parts:
                self.assertRegex(path.name, r"^[a-z_][a-z0-9_]*\.py$")

    def test_sizes_and_signs(self):
        for path in FILES:
            text = path.read_text(encoding="utf-8")
            self.assertLessEqual(len(text.splitlines()), 399, path.name)
            self.assertLessEqual(max(len(line) for line in text.splitlines()), 120, path.name)
            self.assertTrue(all(" " <= sign <= "~" or sign == "\n" for sign in text), path.name)
            for node in ast.walk(tree_of(path)):
                if isinstance(node, ast.FunctionDef):
                    self.assertLessEqual(node.end_lineno - node.lineno + 1, 40, node.name)

    def test_module_level(self):
        kinds = (ast.ImportFrom, ast.FunctionDef, ast.ClassDef, ast.Assign)
        for path in FILES:
            first, *others = tree_of(path).body
            self.assertIsInstance(first.value.value, str, path.name)
            for node in others:
                self.assertIsInstance(node, kinds, path.name)

    def test_imports_name_the_file_that_defines_the_name(self):
        for path in FILES:
            for node in ast.walk(tree_of(path)):
                self.assertNotIsInstance(node, ast.Import, path.name)
                if isinstance(node, ast.ImportFrom) and node.module not in LIBRARY:
                    package, name = node.module.split(".")
                    self.assertEqual((package, node.level), ("havenorhunt", 0))
                    for alias in node.names:
                        self.assertIn(alias.name, defined_in(PACKAGE / f"{name}.py"))

    def test_builtins(self):
        for path in FILES:
            for node in ast.walk(tree_of(path)):
                if isinstance(node, ast.Name) and hasattr(builtins, node.id):
                    self.assertIn(node.id, BUILTINS, path.name)
                    self.assertIsInstance(node.ctx, ast.Load, path.name)

    def test_the_interface_stands_where_it_is_listed(self):
        for name, words in INTERFACE.items():
            defined = defined_in(PACKAGE / f"{name}.py")
            for word in words:
                self.assertIn(word, defined)


if __name__ == "__main__":
    unittest.main()
