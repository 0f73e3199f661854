"""The rules of the language that can be counted: files, lines, imports, words and signs."""

import ast
import builtins
import unittest
from pathlib import Path

PACKAGE = Path(__file__).resolve().parent.parent / "unitgrids"
LIBRARY = {
    "math": {"gcd", "lcm", "isqrt", "comb", "perm", "factorial"},
    "heapq": {"heappush", "heappop", "heapify", "heapreplace", "heappushpop"},
    "itertools": {"product", "combinations", "permutations", "chain", "accumulate", "pairwise", "islice",
                  "zip_longest"},
    "collections": {"defaultdict"},
}
BUILTINS = set(
    "len range enumerate zip min max sum abs sorted reversed int str bool bytes list tuple dict set frozenset "
    "isinstance ord repr any all divmod pow map iter next getattr hasattr setattr super property staticmethod "
    "classmethod Exception ValueError TypeError KeyError IndexError LookupError ZeroDivisionError "
    "ArithmeticError OverflowError RuntimeError NotImplementedError AttributeError StopIteration "
    "NotImplemented".split()
)
BARRED = (ast.Div, ast.Global, ast.AsyncFunctionDef, ast.AsyncFor, ast.AsyncWith, ast.Await, ast.Import)
FOLDING = {"any", "all", "min", "max", "sum", "sorted"}


def files():
    return sorted(path for path in PACKAGE.rglob("*.py"))


def nodes():
    for path in files():
        for node in ast.walk(ast.parse(path.read_text(encoding="ascii"))):
            yield path.name, node


class LanguageTest(unittest.TestCase):
    def test_files(self):
        for path in PACKAGE.rglob("*"):
            if "__pycache__" not in path.parts:
                self.assertTrue(path.is_dir() or path.suffix == ".py", path)
                self.assertRegex(path.stem, "^[a-z_][a-z0-9_]*$")
                self.assertTrue(path.is_file() or (path / "__init__.py").is_file(), path)
        self.assertTrue((PACKAGE / "__init__.py").is_file())
        self.assertLessEqual(len(files()), 100)

    def test_characters_and_sizes(self):
        for path in files():
            data = path.read_bytes()
            self.assertTrue(all(sign == 10 or 32 <= sign <= 126 for sign in data), path)
            lines = data.decode("ascii").splitlines()
            self.assertLessEqual(len(lines), 399, path)
            self.assertLessEqual(max((len(line) for line in lines), default=0), 120, path)

    def test_functions_are_small(self):
        for name, node in nodes():
            if isinstance(node, ast.FunctionDef):
                self.assertLessEqual(node.end_lineno - node.lineno + 1, 40, (name, node.name))

    def test_imports(self):
        for name, node in nodes():
            if isinstance(node, ast.ImportFrom):
                self.assertEqual(node.level, 0, name)
                names = {alias.name for alias in node.names}
                if node.module in LIBRARY:
                    self.assertLessEqual(names, LIBRARY[node.module], name)
                else:
                    self.assertRegex(node.module, "^(unitgrids[.]|__future__$)", name)
                    self.assertNotIn("*", names, name)

    def test_no_two_files_import_from_each_other(self):
        leads = {path.stem: set() for path in files()}
        for name, node in nodes():
            if isinstance(node, ast.ImportFrom) and node.module.startswith("unitgrids."):
                leads[name[:-3]].add(node.module.split(".")[1])
        while leads:
            ends = [name for name, to in leads.items() if not to & set(leads)]
            self.assertTrue(ends, leads)
            leads = {name: to for name, to in leads.items() if name not in ends}

    def test_words_and_signs(self):
        for name, node in nodes():
            self.assertNotIsInstance(node, BARRED, name)
            if isinstance(node, ast.Constant):
                self.assertNotIsInstance(node.value, (float, complex), name)
            if isinstance(node, ast.Name) and hasattr(builtins, node.id):
                self.assertIn(node.id, BUILTINS, name)
                self.assertIsInstance(node.ctx, ast.Load, name)
            if isinstance(node, (ast.FunctionDef, ast.ClassDef)):
                plain = not node.name.startswith("__")
                self.assertFalse(plain and hasattr(builtins, node.name), (name, node.name))
            if isinstance(node, ast.arg):
                self.assertFalse(hasattr(builtins, node.arg), (name, node.arg))

    def test_folding_takes_lists(self):
        for name, node in nodes():
            if isinstance(node, ast.Call) and isinstance(node.func, ast.Name) and node.func.id in FOLDING:
                self.assertFalse(any(isinstance(part, ast.GeneratorExp) for part in node.args), name)


if __name__ == "__main__":
    unittest.main()
