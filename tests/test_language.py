"""The package keeps to the small part of Python that it is written in."""

import ast
import builtins
import pathlib
import re
import unittest

FOLDER = pathlib.Path(__file__).resolve().parent.parent / "warnloop"

PYTHON_NAMES = set("""
    len range enumerate zip min max sum abs sorted reversed int str bool bytes list tuple dict set frozenset isinstance
    ord repr any all divmod Exception ValueError TypeError KeyError IndexError LookupError ZeroDivisionError
    ArithmeticError OverflowError RuntimeError NotImplementedError AttributeError StopIteration
""".split())

PYTHON_METHODS = set("""
    append clear copy count endswith extend find get index insert isalnum isalpha isdigit islower isspace isupper items
    join keys ljust lower lstrip partition pop remove replace reverse rfind rjust rpartition rsplit rstrip setdefault
    split splitlines startswith strip update upper values zfill bit_length add discard sort
""".split())

WORDS_NOT_USED = set("""
    type typing typing_extensions enum Enum IntEnum StrEnum Flag IntFlag Generic Protocol ABC ABCMeta namedtuple
    NamedTuple TypedDict TYPE_CHECKING abstractmethod
""".split())

NAMES_NOT_USED = set("""
    register mro elements open input version_info with_traceback add_note attrgetter breakpoint builtins compile
    copyright credits delattr dir eval exec exit gc getattr globals hasattr help id importlib license locals
    methodcaller os quit setattr super type vars sys format format_map
""".split())

NODES_NOT_USED = (
    ast.With, ast.Global, ast.Nonlocal, ast.Yield, ast.YieldFrom, ast.AsyncFunctionDef, ast.AsyncFor, ast.AsyncWith,
    ast.Await, ast.GeneratorExp, ast.NamedExpr, ast.Match, ast.Div, ast.MatMult, ast.Import,
)

DUNDERS = ("__init__", "__eq__", "__repr__", "__str__", "__len__")
FREE_CALLS = ("zip", "enumerate", "reversed", "range")
WALKERS = ("list", "tuple", "dict", "sorted", "sum", "any", "all", "enumerate", "zip", "min", "max")


def sources():
    return sorted(FOLDER.glob("*.py"))


def trees():
    return {path: ast.parse(path.read_text(encoding="ascii")) for path in sources()}


def nodes_of(tree, kinds):
    return [node for node in ast.walk(tree) if isinstance(node, kinds)]


def module_of(path):
    return f"warnloop.{path.stem}" if path.stem != "__init__" else "warnloop"


def tops_of(tree):
    """The names that a file's top defines, without those that it draws in."""
    found = []
    for node in tree.body:
        if isinstance(node, (ast.FunctionDef, ast.ClassDef)):
            found.append(node.name)
        if isinstance(node, ast.Assign):
            found.extend([target.id for target in node.targets])
    return found


def imported_by(tree):
    return [name.asname or name.name for node in nodes_of(tree, ast.ImportFrom) for name in node.names]


def bound_in(tree):
    """The names of parameters and of locals."""
    found = [arg.arg for arg in nodes_of(tree, ast.arg)]
    tops = {id(target) for node in tree.body if isinstance(node, ast.Assign) for target in node.targets}
    for node in nodes_of(tree, ast.Name):
        if isinstance(node.ctx, ast.Store) and id(node) not in tops:
            found.append(node.id)
    return found


class Files(unittest.TestCase):
    def test_files_and_their_signs(self):
        for path in FOLDER.iterdir():
            if path.name != "__pycache__":
                self.assertRegex(path.name, r"^[a-z0-9_]+\.py$")
        for path in sources():
            for sign in path.read_text(encoding="utf-8"):
                self.assertTrue(sign == "\n" or " " <= sign <= "~", (path, sign))

    def test_sizes(self):
        for path, tree in trees().items():
            rows = path.read_text().splitlines()
            self.assertLessEqual(len(rows), 400, path)
            for row in rows:
                self.assertLessEqual(len(row), 120, (path, row))
            for node in nodes_of(tree, ast.FunctionDef):
                self.assertLessEqual(node.end_lineno - node.lineno + 1, 40, (path, node.name))

    def test_words(self):
        for path in sources():
            text = path.read_text()
            found = set(re.findall(r"\w+", text))
            self.assertEqual(found & WORDS_NOT_USED, set(), path)
            for word in ("dataclass", "overload", "contextmanager"):
                self.assertNotIn(word, text, path)


class Tops(unittest.TestCase):
    def test_tops(self):
        for path, tree in trees().items():
            for at, node in enumerate(tree.body):
                fair = isinstance(node, (ast.ImportFrom, ast.FunctionDef, ast.ClassDef, ast.Assign))
                docstring = at == 0 and isinstance(node, ast.Expr) and isinstance(node.value, ast.Constant)
                self.assertTrue(fair or docstring, (path, node.lineno))
            names = tops_of(tree) + imported_by(tree)
            self.assertEqual(len(names), len(set(names)), path)

    def test_values_of_tops_are_plain(self):
        for path, tree in trees().items():
            for node in [node for node in tree.body if isinstance(node, ast.Assign)]:
                for part in ast.walk(node.value):
                    self.assertNotIsInstance(part, (ast.Call, ast.ListComp, ast.DictComp, ast.SetComp), path)

    def test_imports(self):
        drawn = {}
        known = {module_of(path): tops_of(tree) for path, tree in trees().items()}
        for path, tree in trees().items():
            drawn[module_of(path)] = []
            for node in nodes_of(tree, ast.ImportFrom):
                self.assertIn(node, tree.body)
                self.assertEqual(node.level, 0)
                self.assertIn(node.module, known)
                for name in node.names:
                    self.assertIn(name.name, known[node.module], path)
                drawn[module_of(path)].append(node.module)
        while drawn:
            free = [name for name, froms in drawn.items() if not set(froms) & set(drawn)]
            self.assertTrue(free, f"files draw from one another: {sorted(drawn)}")
            for name in free:
                del drawn[name]

    def test_classes(self):
        for path, tree in trees().items():
            for node in nodes_of(tree, ast.ClassDef):
                self.assertIn(node, tree.body)
                self.assertLessEqual(len(node.bases), 1)
                self.assertFalse(node.keywords or node.decorator_list)
                for row in node.body:
                    self.assertIsInstance(row, (ast.FunctionDef, ast.Expr))
                names = [row.name for row in node.body if isinstance(row, ast.FunctionDef)]
                self.assertEqual(len(names), len(set(names)))

    def test_no_name_is_a_method_and_a_value(self):
        methods, values = set(), set()
        for tree in trees().values():
            for node in nodes_of(tree, ast.ClassDef):
                methods |= {row.name for row in node.body if isinstance(row, ast.FunctionDef)}
            values |= {node.attr for node in nodes_of(tree, ast.Attribute) if isinstance(node.ctx, ast.Store)}
        self.assertEqual(methods & values, set())
        own = {name for kind in (str, int, list, dict, set, bytes, tuple) for name in vars(kind)}
        self.assertEqual((methods - set(DUNDERS)) & own, set())
        self.assertEqual(values & own, set())
        for path, tree in trees().items():
            for node in nodes_of(tree, ast.Attribute):
                self.assertIn(node.attr, methods | values | PYTHON_METHODS, (path, node.lineno))


class Rows(unittest.TestCase):
    def test_functions(self):
        for path, tree in trees().items():
            for node in nodes_of(tree, ast.FunctionDef):
                args = node.args
                self.assertFalse(args.vararg or args.kwarg or args.posonlyargs or node.decorator_list, path)
                if node.name.startswith("__"):
                    self.assertIn(node.name, DUNDERS)

    def test_nodes(self):
        for path, tree in trees().items():
            for node in ast.walk(tree):
                self.assertNotIsInstance(node, NODES_NOT_USED, (path, getattr(node, "lineno", 0)))
                if isinstance(node, (ast.For, ast.While)):
                    self.assertEqual(node.orelse, [], (path, node.lineno))
                if isinstance(node, ast.Constant):
                    self.assertNotIsInstance(node.value, (float, complex))
                    if isinstance(node.value, str):
                        self.assertNotIn("%", node.value, (path, node.lineno))
                if isinstance(node, ast.FormattedValue):
                    self.assertIsNone(node.format_spec, (path, node.lineno))
                if isinstance(node, ast.Compare):
                    self.check_is(node)
                if isinstance(node, ast.Starred):
                    self.assertIsInstance(node.ctx, ast.Store)

    def check_is(self, node):
        for sign, right in zip(node.ops, node.comparators):
            if isinstance(sign, (ast.Is, ast.IsNot)):
                self.assertIsInstance(right, ast.Constant)
                self.assertIn(right.value, (None, True, False))

    def test_names(self):
        for path, tree in trees().items():
            classes = {node.name for node in nodes_of(tree, ast.ClassDef)}
            taken = classes | set(imported_by(tree)) | set(tops_of(tree)) | set(dir(builtins))
            for name in bound_in(tree):
                self.assertFalse(name.startswith("_"), (path, name))
                self.assertNotIn(name, taken, path)
                self.assertNotIn(name, NAMES_NOT_USED, path)
            for name in tops_of(tree):
                self.assertNotIn(name, set(dir(builtins)) | NAMES_NOT_USED, path)
            known = taken - set(dir(builtins)) | set(bound_in(tree)) | PYTHON_NAMES
            for node in nodes_of(tree, ast.Name):
                self.assertIn(node.id, known, (path, node.lineno))

    def test_what_is_walked_is_not_kept(self):
        for path, tree in trees().items():
            walked = {id(node.iter) for node in nodes_of(tree, (ast.For, ast.comprehension))}
            for node in nodes_of(tree, ast.Call):
                if isinstance(node.func, ast.Name) and node.func.id in WALKERS:
                    walked |= {id(arg) for arg in node.args}
            for node in nodes_of(tree, ast.Call):
                name = node.func.id if isinstance(node.func, ast.Name) else getattr(node.func, "attr", "")
                if name in FREE_CALLS + ("items", "keys", "values"):
                    self.assertIn(id(node), walked, (path, node.lineno))

    def test_no_sets_and_no_bytes_are_made(self):
        for path, tree in trees().items():
            for node in nodes_of(tree, (ast.Set, ast.SetComp)):
                self.fail((path, node.lineno))
            for node in nodes_of(tree, ast.Name):
                self.assertNotIn(node.id, ("set", "frozenset", "bytes"), (path, node.lineno))

    def test_tries(self):
        for path, tree in trees().items():
            for node in nodes_of(tree, ast.ExceptHandler):
                self.assertIsInstance(node.type, (ast.Name, ast.Tuple), (path, node.lineno))
            for node in nodes_of(tree, ast.Raise):
                self.assertTrue(node.exc is None or isinstance(node.exc, ast.Call), (path, node.lineno))


if __name__ == "__main__":
    unittest.main()
