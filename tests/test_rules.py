"""A check of the rules of the language that are easy to break by accident.

It covers the form of the files, the imports, the builtins and the methods that
are used, and the kinds of statements. It does not cover all rules.
"""

import ast
import builtins
import pathlib
import unittest
import warnings

PACKAGE = pathlib.Path(__file__).resolve().parent.parent / "chordturn"

LIBRARY = {
    "heapq": {"heappush", "heappop", "heapify", "heapreplace", "heappushpop"},
    "math": {"gcd", "lcm", "isqrt", "comb", "perm", "factorial"},
    "itertools": {
        "product", "combinations", "permutations", "chain", "accumulate", "pairwise", "islice", "zip_longest",
    },
    "collections": {"defaultdict", "deque"},
}

BUILTINS = set(
    "len range enumerate zip min max sum abs sorted reversed int str bool bytes list tuple dict set frozenset"
    " isinstance ord repr any all divmod pow map iter next super Exception ValueError TypeError KeyError IndexError"
    " LookupError ZeroDivisionError ArithmeticError OverflowError RuntimeError NotImplementedError AttributeError"
    " StopIteration NotImplemented".split()
)

METHODS = set(
    "append clear copy count endswith extend find get index insert isalnum isalpha isdigit islower isspace isupper"
    " items join keys ljust lower lstrip partition pop remove replace reverse rfind rjust rpartition rsplit rstrip"
    " setdefault split splitlines startswith strip update upper values zfill bit_length add discard sort __init__"
    " appendleft popleft".split()
)

BARRED_NODES = (
    ast.AsyncFunctionDef, ast.AsyncFor, ast.AsyncWith, ast.Await, ast.Global, ast.Import, ast.Div, ast.MatMult,
    ast.TryStar,
)


class Rules(unittest.TestCase):
    def setUp(self):
        self.sources = {path: path.read_text(encoding="utf-8") for path in sorted(PACKAGE.rglob("*.py"))}
        self.trees = {path: ast.parse(source) for path, source in self.sources.items()}

    def nodes(self, *kinds):
        for path, tree in self.trees.items():
            for node in ast.walk(tree):
                if isinstance(node, kinds):
                    yield f"{path.name}:{getattr(node, 'lineno', 0)}", node

    def test_the_package_is_found(self):
        self.assertIn(PACKAGE / "__init__.py", self.sources)

    def test_the_folder_contains_nothing_but_python_files(self):
        for path in PACKAGE.rglob("*"):
            if path.is_file() and path.parent.name != "__pycache__":
                self.assertEqual(path.suffix, ".py", path)
                self.assertEqual(path.name, path.name.lower())

    def test_no_file_line_or_function_is_too_long(self):
        for path, source in self.sources.items():
            lines = source.split("\n")
            self.assertLess(len(lines), 400, path)
            for number, line in enumerate(lines, start=1):
                self.assertLessEqual(len(line), 120, (path, number))
        for place, node in self.nodes(ast.FunctionDef):
            self.assertLessEqual(node.end_lineno - node.lineno + 1, 40, place)

    def test_every_character_is_plain(self):
        for path, source in self.sources.items():
            for character in source:
                self.assertTrue(character == "\n" or " " <= character <= "~", (path, character))

    def test_python_gives_no_warning(self):
        with warnings.catch_warnings():
            warnings.simplefilter("error")
            for path, source in self.sources.items():
                compile(source, str(path), "exec")

    def test_no_barred_kind_of_statement_or_operator(self):
        for place, _ in self.nodes(*BARRED_NODES):
            self.fail(place)

    def test_imports_name_the_package_or_the_allowed_part_of_the_library(self):
        for place, node in self.nodes(ast.ImportFrom):
            self.assertEqual(node.level, 0, place)
            for name in node.names:
                if node.module in LIBRARY:
                    self.assertIn(name.name, LIBRARY[node.module], place)
                else:
                    self.assertTrue(node.module.startswith("chordturn."), place)
                    self.assertIsNone(name.asname, place)

    def test_the_module_level_holds_only_definitions(self):
        for path, tree in self.trees.items():
            for number, node in enumerate(tree.body):
                docstring = number == 0 and isinstance(node, ast.Expr) and isinstance(node.value, ast.Constant)
                allowed = (ast.ImportFrom, ast.FunctionDef, ast.ClassDef, ast.Assign)
                self.assertTrue(docstring or isinstance(node, allowed), (path, node.lineno))

    def test_only_allowed_builtins_are_used(self):
        # A doctest that ran before leaves its last value as a builtin called _.
        known = set(vars(builtins)) - {"_"}
        for place, node in self.nodes(ast.Name):
            if node.id in known:
                self.assertIn(node.id, BUILTINS, place)
                self.assertIsInstance(node.ctx, ast.Load, place)
        for place, node in self.nodes(ast.arg):
            self.assertNotIn(node.arg, known, place)

    def test_only_allowed_methods_are_called(self):
        for place, node in self.nodes(ast.Call):
            if isinstance(node.func, ast.Attribute):
                self.assertIn(node.func.attr, METHODS, place)

    def test_constants_are_of_the_allowed_kinds(self):
        for place, node in self.nodes(ast.Constant):
            self.assertIn(node.value.__class__, (int, str, bytes, bool, type(None)), place)

    def test_is_stands_beside_none_true_or_false_only(self):
        for place, node in self.nodes(ast.Compare):
            for operator, right in zip(node.ops, node.comparators):
                if isinstance(operator, (ast.Is, ast.IsNot)):
                    self.assertIsInstance(right, ast.Constant, place)
                    self.assertIn(right.value, (None, True, False), place)

    def test_only_own_errors_and_a_few_others_are_caught(self):
        for place, node in self.nodes(ast.ExceptHandler):
            self.assertIsInstance(node.type, (ast.Name, ast.Tuple), place)
            names = [node.type] if isinstance(node.type, ast.Name) else node.type.elts
            for name in names:
                self.assertNotIn(name.id, ("Exception", "BaseException", "TypeError", "AttributeError"), place)


if __name__ == "__main__":
    unittest.main()
