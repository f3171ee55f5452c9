"""The form of the code, as far as it is plain to see: sizes, signs, imports and statements."""

import ast
import pathlib
import unittest

PACKAGE = pathlib.Path(__file__).resolve().parent.parent / "renamedhorn"
FILES = sorted(PACKAGE.glob("*.py"))
LIBRARY = {
    "heapq": {"heappush", "heappop", "heapify", "heapreplace", "heappushpop"},
    "math": {"gcd", "lcm", "isqrt", "comb", "perm", "factorial"},
    "itertools": {
        "product", "combinations", "permutations", "chain", "accumulate", "pairwise", "islice", "zip_longest",
    },
    "collections": {"defaultdict"},
}
DECORATORS = {"property", "staticmethod", "classmethod"}
BARRED = (ast.Import, ast.Global, ast.AsyncFunctionDef, ast.Await, ast.Div)


class FormTest(unittest.TestCase):
    def test_the_folder_holds_only_files_of_the_package(self):
        found = [path.name for path in PACKAGE.iterdir() if path.name != "__pycache__"]
        self.assertEqual(sorted(found), sorted([path.name for path in FILES]))
        self.assertIn("__init__.py", found)

    def test_signs_and_lines(self):
        for path in FILES:
            lines = path.read_text(encoding="utf-8").split("\n")
            self.assertLessEqual(len(lines), 400, path.name)
            for at, line in enumerate(lines, start=1):
                with self.subTest(file=path.name, line=at):
                    self.assertLessEqual(len(line), 120)
                    self.assertTrue(all(" " <= sign <= "~" for sign in line))

    def test_nodes(self):
        for path in FILES:
            for node in ast.walk(ast.parse(path.read_text(encoding="utf-8"))):
                with self.subTest(file=path.name, line=getattr(node, "lineno", 0)):
                    self.look_at(node)

    def look_at(self, node):
        """Assert of one node what can be told from it alone."""
        self.assertNotIsInstance(node, BARRED)
        if isinstance(node, ast.ImportFrom):
            self.look_at_import(node)
        if isinstance(node, ast.FunctionDef):
            self.assertLessEqual(node.end_lineno - node.lineno + 1, 40)
            for over in node.decorator_list:
                word = over.attr if isinstance(over, ast.Attribute) else over.id
                self.assertIn(word, DECORATORS | {"setter"})
        if isinstance(node, ast.Constant):
            self.assertNotIsInstance(node.value, float)
            self.assertNotIn("%", str(node.value))

    def look_at_import(self, node):
        """Assert that an import names a file of the package or a permitted word of the library."""
        self.assertEqual(node.level, 0)
        words = {alias.name for alias in node.names}
        if node.module in LIBRARY:
            self.assertLessEqual(words, LIBRARY[node.module])
        else:
            self.assertIn(node.module, ["renamedhorn." + path.stem for path in FILES])
            self.assertNotIn("*", words)
