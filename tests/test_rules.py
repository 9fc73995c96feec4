"""A check of the rules of the language that are easy to break by accident.

It covers the form of the files, the imports, the builtins and the methods that
are used, and the kinds of statements. It does not cover all rules.
"""

import ast
import builtins
import pathlib
import unittest
import warnings

PACKAGE = pathlib.Path(__file__).resolve().parent.parent / "chordturn"

LIBRARY = {
    "heapq": {"heappush", "heappop", "heapify", "heapreplace", "heappushpop"},
    "math": {"gcd", "lcm", "isqrt", "comb", "perm", "factorial"},
    "itertools": {
        "product", "combinations", "permutations", "chain", "accumulate", "pairwise", "islice", "zip_longest",
    },
    "collections": {"defaultdict", "deque"},
}

BUILTINS = set(
    "len range enumerate zip min max sum abs sorted reversed int str bool bytes list tuple dict set frozenset"
    " isinstance ord repr any all divmod pow map iter next super Exception ValueError TypeError KeyError IndexError"
    " LookupError ZeroDivisionError ArithmeticError OverflowError RuntimeError NotImplementedError AttributeError"
    " StopIteration NotImplemented".split()
)

METHODS = set(
    "append clear copy count endswith extend find get index insert isalnum isalpha isdigit islower isspace isupper"
    " items join keys ljust lower lstrip partition pop remove replace reverse rfind rjust rpartition rsplit rstrip"
    " setdefault split splitlines startswith strip update upper values zfill bit_length add discard sort __init__"
    " appendleft popleft".split()
)

# Words that L17 keeps out of all names, and out of strings that are no docstrings.
BARRED_NAMES = set(
    "register mro elements open input law version_info with_traceback add_note attrgetter breakpoint builtins compile"
    " copyright credits delattr dir eval exec exit gc getattr globals hasattr help id importlib license locals"
    " methodcaller os quit setattr vars sys chr".split()
)
BARRED_WORDS = set(
    "type typing enum Enum IntEnum StrEnum Flag IntFlag Generic Protocol ABC ABCMeta namedtuple NamedTuple TypedDict"
    " TYPE_CHECKING abstractmethod dataclass overload contextmanager".split()
)

# Methods that change the list, dict or set that they are called on.
CHANGING = set("append clear extend insert pop remove reverse setdefault sort update add discard".split())

BARRED_NODES = (
    ast.AsyncFunctionDef, ast.AsyncFor, ast.AsyncWith, ast.Await, ast.Global, ast.Import, ast.Div, ast.MatMult,
    ast.TryStar,
)


class Rules(unittest.TestCase):
    def setUp(self):
        self.sources = {path: path.read_text(encoding="utf-8") for path in sorted(PACKAGE.rglob("*.py"))}
        self.trees = {path: ast.parse(source) for path, source in self.sources.items()}

    def nodes(self, *kinds):
        for path, tree in self.trees.items():
            for node in ast.walk(tree):
                if isinstance(node, kinds):
                    yield f"{path.name}:{getattr(node, 'lineno', 0)}", node

    def test_the_package_is_found(self):
        self.assertIn(PACKAGE / "__init__.py", self.sources)

    def test_the_folder_contains_nothing_but_python_files(self):
        for path in PACKAGE.rglob("*"):
            if path.is_file() and path.parent.name != "__pycache__":
                self.assertEqual(path.suffix, ".py", path)
                self.assertEqual(path.name, path.name.lower())

    def test_no_file_line_or_function_is_too_long(self):
        for path, source in self.sources.items():
            lines = source.split("\n")
            self.assertLess(len(lines), 400, path)
            for number, line in enumerate(lines, start=1):
                self.assertLessEqual(len(line), 120, (path, number))
        for place, node in self.nodes(ast.FunctionDef):
            self.assertLessEqual(node.end_lineno - node.lineno + 1, 40, place)

    def test_every_character_is_plain(self):
        for path, source in self.sources.items():
            for character in source:
                self.assertTrue(character == "\n" or " " <= character <= "~", (path, character))

    def test_python_gives_no_warning(self):
        with warnings.catch_warnings():
            warnings.simplefilter("error")
            for path, source in self.sources.items():
                compile(source, str(path), "exec")

    def test_no_barred_kind_of_statement_or_operator(self):
        for place, _ in self.nodes(*BARRED_NODES):
            self.fail(place)

    def test_imports_name_the_package_or_the_allowed_part_of_the_library(self):
        for place, node in self.nodes(ast.ImportFrom):
            self.assertEqual(node.level, 0, place)
            for name in node.names:
                if node.module in LIBRARY:
                    self.assertIn(name.name, LIBRARY[node.module], place)
                else:
                    self.assertTrue(node.module.startswith("chordturn."), place)
                    self.assertIsNone(name.asname, place)

    def test_the_module_level_holds_only_definitions(self):
        for path, tree in self.trees.items():
            for number, node in enumerate(tree.body):
                docstring = number == 0 and isinstance(node, ast.Expr) and isinstance(node.value, ast.Constant)
                allowed = (ast.ImportFrom, ast.FunctionDef, ast.ClassDef, ast.Assign)
                self.assertTrue(docstring or isinstance(node, allowed), (path, node.lineno))

    def test_only_allowed_builtins_are_used(self):
        # A doctest that ran before leaves its last value as a builtin called _.
        known = set(vars(builtins)) - {"_"}
        for place, node in self.nodes(ast.Name):
            if node.id in known:
                self.assertIn(node.id, BUILTINS, place)
                self.assertIsInstance(node.ctx, ast.Load, place)
        for place, node in self.nodes(ast.arg):
            self.assertNotIn(node.arg, known, place)

    def test_only_allowed_methods_are_called(self):
        for place, node in self.nodes(ast.Call):
            if isinstance(node.func, ast.Attribute):
                self.assertIn(node.func.attr, METHODS, place)

    def test_constants_are_of_the_allowed_kinds(self):
        for place, node in self.nodes(ast.Constant):
            self.assertIn(node.value.__class__, (int, str, bytes, bool, type(None)), place)

    def test_is_stands_beside_none_true_or_false_only(self):
        for place, node in self.nodes(ast.Compare):
            for operator, right in zip(node.ops, node.comparators):
                if isinstance(operator, (ast.Is, ast.IsNot)):
                    self.assertIsInstance(right, ast.Constant, place)
                    self.assertIn(right.value, (None, True, False), place)

    def test_exponents_are_small_literals(self):
        for place, node in self.nodes(ast.BinOp, ast.AugAssign):
            if isinstance(node.op, ast.Pow):
                exponent = node.right if isinstance(node, ast.BinOp) else node.value
                self.assertIsInstance(exponent, ast.Constant, place)
                self.assertIn(exponent.value, range(65), place)

    def test_no_percent_sign_and_no_barred_word_in_a_string(self):
        for path, tree in self.trees.items():
            docstrings = [
                node.body[0].value for node in ast.walk(tree)
                if isinstance(node, (ast.Module, ast.FunctionDef, ast.ClassDef)) and ast.get_docstring(node)
            ]
            for node in ast.walk(tree):
                if isinstance(node, ast.Constant) and isinstance(node.value, str) and node not in docstrings:
                    self.assertNotIn("%", node.value, path)
                    self.assertFalse(BARRED_WORDS & set(node.value.split()), path)

    def test_no_barred_names(self):
        for place, node in self.nodes(ast.Name, ast.arg, ast.FunctionDef, ast.ClassDef, ast.Attribute, ast.keyword):
            names = [getattr(node, field, None) for field in ("id", "arg", "name", "attr")]
            for name in [name for name in names if name is not None]:
                self.assertNotIn(name, BARRED_NAMES | BARRED_WORDS, place)
                self.assertTrue(name == "__init__" or not name.startswith("__"), place)

    def test_no_local_name_has_the_name_of_an_import_a_class_or_a_function_of_its_file(self):
        for path, tree in self.trees.items():
            known = {name.name for node in tree.body if isinstance(node, ast.ImportFrom) for name in node.names}
            known |= {node.name for node in tree.body if isinstance(node, (ast.ClassDef, ast.FunctionDef))}
            for function in [node for node in ast.walk(tree) if isinstance(node, ast.FunctionDef)]:
                for node in ast.walk(function):
                    if isinstance(node, ast.arg):
                        self.assertNotIn(node.arg, known, (path.name, node.lineno))
                    if isinstance(node, ast.Name) and isinstance(node.ctx, ast.Store):
                        self.assertNotIn(node.id, known, (path.name, node.lineno))

    def test_each_name_is_bound_once_at_the_module_level(self):
        for path, tree in self.trees.items():
            bound = []
            for node in tree.body:
                if isinstance(node, ast.ImportFrom):
                    bound += [name.asname or name.name for name in node.names]
                elif isinstance(node, (ast.FunctionDef, ast.ClassDef)):
                    bound.append(node.name)
                elif isinstance(node, ast.Assign):
                    self.assertIsInstance(node.value, ast.Constant, (path.name, node.lineno))
                    bound += [target.id for target in node.targets]
            self.assertEqual(len(bound), len(set(bound)), path.name)

    def test_no_two_files_import_from_each_other(self):
        above = {}
        for path, tree in self.trees.items():
            modules = [node.module for node in tree.body if isinstance(node, ast.ImportFrom)]
            above[path.stem] = {name.split(".")[1] for name in modules if name.startswith("chordturn.")}
        placed = set()
        while len(placed) < len(above):
            ready = {name for name in above if name not in placed and above[name] <= placed}
            self.assertTrue(ready, set(above) - placed)
            placed |= ready

    def test_imports_name_the_file_that_defines_the_name(self):
        defined = {}
        for path, tree in self.trees.items():
            names = {node.name for node in tree.body if isinstance(node, (ast.FunctionDef, ast.ClassDef))}
            names |= {node.targets[0].id for node in tree.body if isinstance(node, ast.Assign)}
            defined["chordturn." + path.stem] = names
        for place, node in self.nodes(ast.ImportFrom):
            for name in node.names:
                if node.module in defined:
                    self.assertIn(name.name, defined[node.module], place)

    def test_a_loop_does_not_change_what_it_iterates_over(self):
        for place, loop in self.nodes(ast.For):
            over = {node.id for node in ast.walk(loop.iter) if isinstance(node, ast.Name)}
            for node in [node for part in loop.body for node in ast.walk(part)]:
                if isinstance(node, ast.Call) and isinstance(node.func, ast.Attribute) and node.func.attr in CHANGING:
                    if isinstance(node.func.value, ast.Name):
                        self.assertNotIn(node.func.value.id, over, place)
                if isinstance(node, ast.Subscript) and not isinstance(node.ctx, ast.Load):
                    self.assertNotIn(getattr(node.value, "id", None), over, place)

    def test_stored_sets_are_only_asked_and_added_to(self):
        for place, function in self.nodes(ast.FunctionDef):
            stored = {
                node.targets[0].id for node in ast.walk(function)
                if isinstance(node, ast.Assign) and self.is_set(node.value)
            }
            allowed = set()
            for node in ast.walk(function):
                if isinstance(node, ast.Assign) and self.is_set(node.value):
                    allowed.add(node.targets[0])
                if isinstance(node, ast.Compare) and isinstance(node.ops[0], (ast.In, ast.NotIn)):
                    allowed.add(node.comparators[0])
                if isinstance(node, ast.Attribute) and node.attr in ("add", "discard"):
                    allowed.add(node.value)
            for node in ast.walk(function):
                if isinstance(node, ast.Name) and node.id in stored:
                    self.assertIn(node, allowed, place)

    def is_set(self, node):
        called = isinstance(node, ast.Call) and isinstance(node.func, ast.Name) and node.func.id == "set"
        return called or isinstance(node, (ast.Set, ast.SetComp))

    def test_calls_of_builtins_have_only_the_allowed_keywords(self):
        allowed = {"sorted": ("key", "reverse"), "min": ("key", "default"), "max": ("key", "default"),
                   "sum": ("start",), "enumerate": ("start",), "zip": ("strict",)}
        for place, node in self.nodes(ast.Call):
            if isinstance(node.func, ast.Name) and node.func.id in BUILTINS:
                for keyword in node.keywords:
                    self.assertIn(keyword.arg, allowed.get(node.func.id, ()), place)
            elif isinstance(node.func, ast.Attribute) and node.func.attr != "__init__":
                self.assertEqual(node.keywords, [], place)

    def test_only_own_errors_and_a_few_others_are_caught(self):
        for place, node in self.nodes(ast.ExceptHandler):
            self.assertIsInstance(node.type, (ast.Name, ast.Tuple), place)
            names = [node.type] if isinstance(node.type, ast.Name) else node.type.elts
            for name in names:
                self.assertNotIn(name.id, ("Exception", "BaseException", "TypeError", "AttributeError"), place)


if __name__ == "__main__":
    unittest.main()
