"""The rules of the language that can be counted: files, lines, imports, words and signs."""

import ast
import builtins
import re
import unittest
from pathlib import Path

PACKAGE = Path(__file__).resolve().parent.parent / "unitgrids"
LIBRARY = {
    "math": {"gcd", "lcm", "isqrt", "comb", "perm", "factorial"},
    "heapq": {"heappush", "heappop", "heapify", "heapreplace", "heappushpop"},
    "itertools": {"product", "combinations", "permutations", "chain", "accumulate", "pairwise", "islice",
                  "zip_longest"},
    "collections": {"defaultdict"},
}
BUILTINS = set(
    "len range enumerate zip min max sum abs sorted reversed int str bool bytes list tuple dict set frozenset "
    "isinstance ord repr any all divmod pow map iter next getattr hasattr setattr super property staticmethod "
    "classmethod Exception ValueError TypeError KeyError IndexError LookupError ZeroDivisionError "
    "ArithmeticError OverflowError RuntimeError NotImplementedError AttributeError StopIteration "
    "NotImplemented".split()
)
BARRED = (ast.Div, ast.Global, ast.AsyncFunctionDef, ast.AsyncFor, ast.AsyncWith, ast.Await, ast.Import)
FOLDING = {"any", "all", "min", "max", "sum", "sorted"}
VALUE_METHODS = set(
    "append clear copy count endswith extend find get index insert isalnum isalpha isdigit islower isspace isupper "
    "items join keys ljust lower lstrip partition pop remove replace reverse rfind rjust rpartition rsplit rstrip "
    "setdefault split splitlines startswith strip update upper values zfill bit_length add discard".split()
)
BARRED_NAMES = set(
    "register mro elements open input law version_info with_traceback add_note attrgetter breakpoint builtins compile "
    "copyright credits delattr dir eval exec exit gc globals help id importlib license locals methodcaller os quit "
    "sys type vars hash map iter next".split()
)
BARRED_WORDS = re.compile(
    r"\b(type|typing|enum|Enum|IntEnum|StrEnum|Flag|IntFlag|Generic|Protocol|ABC|ABCMeta|namedtuple|NamedTuple|"
    r"TypedDict|TYPE_CHECKING|abstractmethod)\b|dataclass|overload|contextmanager|_wall|_WallAttr"
)
SINGLE = (type(None), bool)


def files():
    return sorted(path for path in PACKAGE.rglob("*.py"))


def nodes():
    for path in files():
        for node in ast.walk(ast.parse(path.read_text(encoding="ascii"))):
            yield path.name, node


class LanguageTest(unittest.TestCase):
    def test_files(self):
        for path in PACKAGE.rglob("*"):
            if "__pycache__" not in path.parts:
                self.assertTrue(path.is_dir() or path.suffix == ".py", path)
                self.assertRegex(path.stem, "^[a-z_][a-z0-9_]*$")
                self.assertTrue(path.is_file() or (path / "__init__.py").is_file(), path)
        self.assertTrue((PACKAGE / "__init__.py").is_file())
        self.assertLessEqual(len(files()), 100)

    def test_characters_and_sizes(self):
        for path in files():
            data = path.read_bytes()
            self.assertTrue(all(sign == 10 or 32 <= sign <= 126 for sign in data), path)
            lines = data.decode("ascii").splitlines()
            self.assertLessEqual(len(lines), 399, path)
            self.assertLessEqual(max((len(line) for line in lines), default=0), 120, path)

    def test_functions_are_small(self):
        for name, node in nodes():
            if isinstance(node, ast.FunctionDef):
                self.assertLessEqual(node.end_lineno - node.lineno + 1, 40, (name, node.name))

    def test_imports(self):
        for name, node in nodes():
            if isinstance(node, ast.ImportFrom):
                self.assertEqual(node.level, 0, name)
                names = {alias.name for alias in node.names}
                if node.module in LIBRARY:
                    self.assertLessEqual(names, LIBRARY[node.module], name)
                else:
                    self.assertRegex(node.module, "^(unitgrids[.]|__future__$)", name)
                    self.assertNotIn("*", names, name)

    def test_no_two_files_import_from_each_other(self):
        leads = {path.stem: set() for path in files()}
        for name, node in nodes():
            if isinstance(node, ast.ImportFrom) and node.module.startswith("unitgrids."):
                leads[name[:-3]].add(node.module.split(".")[1])
        while leads:
            ends = [name for name, to in leads.items() if not to & set(leads)]
            self.assertTrue(ends, leads)
            leads = {name: to for name, to in leads.items() if name not in ends}

    def test_words_and_signs(self):
        for name, node in nodes():
            self.assertNotIsInstance(node, BARRED, name)
            if isinstance(node, ast.Constant):
                self.assertNotIsInstance(node.value, (float, complex), name)
            if isinstance(node, ast.Name) and hasattr(builtins, node.id):
                self.assertIn(node.id, BUILTINS, name)
                self.assertIsInstance(node.ctx, ast.Load, name)
            if isinstance(node, (ast.FunctionDef, ast.ClassDef)):
                plain = not node.name.startswith("__")
                self.assertFalse(plain and hasattr(builtins, node.name), (name, node.name))
            if isinstance(node, ast.arg):
                self.assertFalse(hasattr(builtins, node.arg), (name, node.arg))

    def test_names(self):
        for path in files():
            tree = ast.parse(path.read_text(encoding="ascii"))
            bound = [alias.name for node in tree.body if isinstance(node, ast.ImportFrom) for alias in node.names]
            classes = [node.name for node in tree.body if isinstance(node, ast.ClassDef)]
            plain = [node.name for node in tree.body if isinstance(node, ast.FunctionDef)]
            plain += [name.id for node in tree.body if isinstance(node, ast.Assign) for name in node.targets]
            self.assertEqual(len(bound + classes + plain), len(set(bound + classes + plain)), path)
            for function in [node for node in ast.walk(tree) if isinstance(node, ast.FunctionDef)]:
                local = {node.arg for node in ast.walk(function) if isinstance(node, ast.arg)}
                local |= {node.id for node in ast.walk(function)
                          if isinstance(node, ast.Name) and not isinstance(node.ctx, ast.Load)}
                self.assertFalse(local & set(bound + classes), (path, function.name))
                self.assertFalse(local & BARRED_NAMES, (path, function.name))

    def test_imports_name_the_defining_file(self):
        defined = {}
        for path in files():
            tree = ast.parse(path.read_text(encoding="ascii"))
            names = {node.name for node in tree.body if isinstance(node, (ast.FunctionDef, ast.ClassDef))}
            names |= {name.id for node in tree.body if isinstance(node, ast.Assign) for name in node.targets}
            defined["unitgrids." + path.stem] = names
        for name, node in nodes():
            if isinstance(node, ast.ImportFrom) and node.module in defined:
                self.assertLessEqual({alias.name for alias in node.names}, defined[node.module], name)

    def test_all_that_is_defined_or_imported_is_used(self):
        used = [node.id for _, node in nodes() if isinstance(node, ast.Name)]
        used += [node.attr for _, node in nodes() if isinstance(node, ast.Attribute)]
        for path in files():
            tree = ast.parse(path.read_text(encoding="ascii"))
            here = {node.id for node in ast.walk(tree) if isinstance(node, ast.Name)}
            for node in tree.body:
                if isinstance(node, ast.ImportFrom):
                    self.assertLessEqual({alias.name for alias in node.names}, here, path)
                if isinstance(node, ast.FunctionDef) and node.name.startswith("_"):
                    self.assertIn(node.name, used, path)

    def test_methods(self):
        own = {part.name for _, node in nodes() if isinstance(node, ast.ClassDef) for part in node.body
               if isinstance(part, ast.FunctionDef)}
        stored = {node.attr for _, node in nodes() if isinstance(node, ast.Attribute)
                  and not isinstance(node.ctx, ast.Load)}
        self.assertFalse(own & stored)
        self.assertFalse((own | stored) & VALUE_METHODS)
        for name, node in nodes():
            if isinstance(node, ast.Call) and isinstance(node.func, ast.Attribute):
                self.assertIn(node.func.attr, own | VALUE_METHODS, name)
            elif isinstance(node, ast.Attribute) and node.attr not in own | VALUE_METHODS:
                self.assertIn(node.attr, stored, name)

    def test_words(self):
        for name, node in nodes():
            words = []
            if isinstance(node, ast.Constant) and isinstance(node.value, str):
                self.assertNotIn("%", node.value, name)
                words = [] if " " in node.value else [node.value]
            if isinstance(node, (ast.Name, ast.Attribute, ast.FunctionDef, ast.ClassDef, ast.arg)):
                words = [getattr(node, part) for part in ("id", "attr", "name", "arg") if hasattr(node, part)]
            for word in words:
                self.assertIsNone(BARRED_WORDS.search(word), (name, word))

    def test_only_own_errors_are_caught(self):
        own = {node.name for name, node in nodes() if name == "errors.py" and isinstance(node, ast.ClassDef)}
        for name, node in nodes():
            if isinstance(node, ast.Try):
                self.assertEqual((node.orelse, node.finalbody), ([], []), name)
                self.assertLessEqual({ast.unparse(handler.type) for handler in node.handlers}, own, name)

    def test_what_is_iterated_at_once_is_not_passed_on(self):
        """ranges, zips and the like stand in loops, comprehensions and few builtins, or are kept as a range."""
        once = {"range", "zip", "enumerate", "reversed"}
        takers = {"list", "tuple", "dict", "sorted", "sum", "enumerate", "zip", "any", "all", "min", "max",
                  "product", "combinations", "permutations"}
        for name, node in nodes():
            parts, taker = [], ""
            if isinstance(node, ast.Call):
                taker = node.func.id if isinstance(node.func, ast.Name) else ""
                allowed = takers | ({"reversed", "len"} if taker in ("reversed", "len") else set())
                parts = node.args if taker not in allowed else []
            elif isinstance(node, (ast.Tuple, ast.List)):
                parts = node.elts
            elif isinstance(node, (ast.Return, ast.Assign)):
                parts = [node.value]
            elif isinstance(node, ast.Dict):
                parts = node.values
            for part in parts:
                if isinstance(part, ast.Call):
                    called = part.func.id if isinstance(part.func, ast.Name) else getattr(part.func, "attr", "")
                    kept = called == "range" and (isinstance(node, ast.Assign) or taker in ("reversed", "len"))
                    barred = called in once or (called in ("items", "keys", "values") and not isinstance(part.func, ast.Name))
                    self.assertFalse(barred and not kept, (name, part.lineno))

    def test_operators(self):
        for name, node in nodes():
            self.assertNotIsInstance(node, (ast.Set, ast.GeneratorExp, ast.Yield, ast.YieldFrom), name)
            if isinstance(node, ast.Compare):
                for sign, side in zip(node.ops, node.comparators):
                    if isinstance(sign, (ast.Is, ast.IsNot)):
                        self.assertTrue(isinstance(side, ast.Constant) and isinstance(side.value, SINGLE), name)
            if isinstance(node, ast.BinOp) and isinstance(node.op, ast.Pow):
                self.assertIsInstance(node.right, ast.Constant, name)

    def test_folding_takes_lists(self):
        for name, node in nodes():
            if isinstance(node, ast.Call) and isinstance(node.func, ast.Name) and node.func.id in FOLDING:
                self.assertFalse(any(isinstance(part, ast.GeneratorExp) for part in node.args), name)


if __name__ == "__main__":
    unittest.main()
