"""Rules of the language that a look at the files can tell: what they hold, import and call."""

import ast
import doctest
import unittest
from pathlib import Path

ROOT = Path(__file__).resolve().parent.parent
FOLDER = ROOT / "joinhall"
FILES = sorted(path for path in FOLDER.rglob("*") if "__pycache__" not in path.parts)
LIBRARY = {
    "heapq": "heappush heappop heapify heapreplace heappushpop".split(),
    "math": "gcd lcm isqrt comb perm factorial".split(),
    "itertools": "product combinations permutations chain accumulate pairwise islice zip_longest".split(),
    "collections": ["defaultdict", "deque"],
}
METHODS = (
    "append clear copy count endswith extend find get index insert isalnum isalpha isdigit islower"
    " isspace isupper items join keys ljust lower lstrip partition pop remove replace reverse rfind"
    " rjust rpartition rsplit rstrip setdefault split splitlines startswith strip update upper values"
    " zfill bit_length sort"
).split()
BUILTINS = (
    "len range enumerate zip min max sum abs sorted reversed int str bool list tuple dict set"
    " isinstance ord repr any all divmod iter next map"
).split()
BARRED = (
    ast.ImportFrom, ast.Import, ast.Global, ast.AsyncFunctionDef, ast.AsyncFor, ast.AsyncWith,
    ast.Await, ast.Div,
)


def trees():
    return [(path, ast.parse(path.read_text("ascii"))) for path in FILES]


def functions(tree):
    return [node for node in ast.walk(tree) if isinstance(node, ast.FunctionDef)]


class Language(unittest.TestCase):
    """Point 2, and the rules for files."""

    def test_files(self):
        self.assertIn(FOLDER / "__init__.py", FILES)
        for path in FILES:
            text = path.read_text("ascii")
            self.assertEqual(path.suffix, ".py")
            self.assertLessEqual(set(text), set("\n" + "".join(map(chr, range(32, 127)))), path)
            self.assertLess(text.count("\n"), 400, path)
            self.assertLessEqual(max(map(len, text.split("\n"))), 120, path)

    def test_functions_are_small(self):
        for path, tree in trees():
            for node in functions(tree):
                self.assertLessEqual(node.end_lineno - node.lineno + 1, 40, node.name)

    def test_imports(self):
        for path, tree in trees():
            for node in tree.body:
                if not isinstance(node, ast.ImportFrom):
                    self.assertNotIsInstance(node, ast.Import)
                    continue
                names = [alias.name for alias in node.names]
                self.assertEqual((node.level, [alias.asname for alias in node.names]), (0, [None] * len(names)))
                if node.module in LIBRARY:
                    self.assertLessEqual(set(names), set(LIBRARY[node.module]), path)
                else:
                    package, home = node.module.split(".")
                    self.assertEqual(package, "joinhall")
                    self.assertLessEqual(set(names), set(self.bound_in(FOLDER / (home + ".py"))), path)

    def bound_in(self, path):
        for node in ast.parse(path.read_text("ascii")).body:
            if isinstance(node, (ast.FunctionDef, ast.ClassDef)):
                yield node.name
            elif isinstance(node, ast.Assign):
                yield node.targets[0].id

    def test_statements_and_values(self):
        for path, tree in trees():
            for part in tree.body:
                for node in ast.walk(part):
                    if node is not part:
                        self.assertNotIsInstance(node, BARRED, (path, getattr(node, "lineno", None)))
                    if isinstance(node, ast.Constant):
                        self.assertIn(type(node.value), (int, str, bool, type(None)))

    def test_calls(self):
        own = [method.name for path, tree in trees() for part in tree.body
               if isinstance(part, ast.ClassDef) for method in functions(part)]
        for path, tree in trees():
            known = [node.name for node in tree.body if isinstance(node, (ast.FunctionDef, ast.ClassDef))]
            for node in tree.body:
                if isinstance(node, ast.ImportFrom):
                    known.extend(alias.name for alias in node.names)
            # What a function is passed may be a function.
            known.extend(argument.arg for node in functions(tree) for argument in node.args.args)
            for node in ast.walk(tree):
                if isinstance(node, ast.Call) and isinstance(node.func, ast.Name):
                    self.assertIn(node.func.id, known + BUILTINS, path)
                elif isinstance(node, ast.Call):
                    self.assertIn(node.func.attr, METHODS + own, path)

    def test_imports_do_not_go_round(self):
        needs = {}
        for path, tree in trees():
            found = [node.module for node in tree.body if isinstance(node, ast.ImportFrom)]
            needs["joinhall." + path.stem] = [name for name in found if name not in LIBRARY]
        while needs:
            free = [name for name in needs if not any(other in needs for other in needs[name])]
            self.assertNotEqual(free, [], needs)
            for name in free:
                del needs[name]


class Readme(unittest.TestCase):
    def test_examples(self):
        text = (ROOT / "README.md").read_text("utf-8").replace("```", "")
        test = doctest.DocTestParser().get_doctest(text, {}, "README.md", "README.md", 0)
        result = doctest.DocTestRunner().run(test)
        self.assertEqual(result.failed, 0)
        self.assertGreater(result.attempted, 0)


if __name__ == "__main__":
    unittest.main()
