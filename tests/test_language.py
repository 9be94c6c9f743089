"""The package keeps to the subset of Python that it is written in, as far as a plain look can tell."""

import ast
import builtins
import re
import unittest
from pathlib import Path

ROOT = Path(__file__).resolve().parent.parent
PACKAGE = ROOT / "bentstretch"

BARRED_WORDS = re.compile(
    r"\b(type|typing|typing_extensions|enum|Enum|IntEnum|StrEnum|Flag|IntFlag|Generic|Protocol|ABC|ABCMeta"
    r"|namedtuple|NamedTuple|TypedDict|TYPE_CHECKING|abstractmethod)\b|dataclass|overload|contextmanager"
)
BARRED_NAMES = set(
    "register mro elements open input version_info with_traceback add_note attrgetter breakpoint builtins compile"
    " copyright credits delattr dir eval exec exit gc getattr globals hasattr help id importlib license locals"
    " methodcaller os quit setattr super type vars sys chr frozenset".split()
)
BUILTINS_LET = set(
    "len range enumerate zip min max sum abs sorted reversed int str bool bytes list tuple dict set isinstance ord"
    " repr any all divmod Exception ValueError TypeError KeyError IndexError LookupError ZeroDivisionError"
    " ArithmeticError OverflowError RuntimeError NotImplementedError AttributeError StopIteration".split()
)
METHODS_LET = set(
    "append clear copy count endswith extend find get index insert isalnum isalpha isdigit islower isspace isupper items"
    " join keys ljust lower lstrip partition pop remove replace reverse rfind rjust rpartition rsplit rstrip setdefault"
    " split splitlines startswith strip update upper values zfill bit_length __init__".split()
)
ITERATED_AT_ONCE = set("zip enumerate reversed range items keys values".split())
ITERATING = set("list tuple dict sorted sum any all enumerate zip bytes min max".split())
STATEMENTS_BARRED = (ast.Global, ast.AsyncFunctionDef, ast.AsyncFor, ast.AsyncWith, ast.Await, ast.Import, ast.Div)


def files():
    return sorted(PACKAGE.rglob("*.py"))


def trees():
    return [(file, ast.parse(file.read_text("utf-8"))) for file in files()]


def nodes(kind):
    return [(file, node) for file, tree in trees() for node in ast.walk(tree) if isinstance(node, kind)]


def called(node):
    """The name of what is called, of a function or a method."""
    return node.func.attr if isinstance(node.func, ast.Attribute) else getattr(node.func, "id", None)


def iterates(parent, node):
    """Whether what stands around a call iterates it on the spot."""
    if isinstance(parent, (ast.For, ast.comprehension)):
        return parent.iter is node
    if not isinstance(parent, ast.Call) or node not in parent.args:
        return False
    if called(parent) == "join":
        return isinstance(parent.func.value, ast.Constant)
    return called(parent) == "zip" or called(parent) in ITERATING and parent.args[0] is node


def names_bound(tree):
    """All names that a file gives a meaning to, but those of its imports."""
    names = [node.id for node in ast.walk(tree) if isinstance(node, ast.Name) and not isinstance(node.ctx, ast.Load)]
    names += [node.arg for node in ast.walk(tree) if isinstance(node, ast.arg)]
    names += [node.name for node in ast.walk(tree) if isinstance(node, (ast.FunctionDef, ast.ClassDef))]
    return [name for name in names if not (name.startswith("__") and name.endswith("__"))]


def imported(tree):
    return [alias.asname or alias.name for node in tree.body if isinstance(node, ast.ImportFrom) for alias in node.names]


class Language(unittest.TestCase):

    def test_files(self):
        for path in PACKAGE.rglob("*"):
            if "__pycache__" in path.parts:
                continue
            self.assertTrue(path.is_dir() or path.suffix == ".py", path)
            self.assertRegex(path.stem, r"^([a-z][a-z0-9_]*|__init__|__main__)$")
            if path.is_dir():
                self.assertTrue((path / "__init__.py").exists(), path)
                self.assertFalse(path.with_suffix(".py").exists(), path)
        self.assertLessEqual(len(files()), 100)

    def test_signs_and_sizes(self):
        for file in files():
            text = file.read_text("utf-8")
            self.assertRegex(text, r"\A[\n -~]*\Z", file)
            self.assertLessEqual(len(text.splitlines()), 400, file)
            self.assertLessEqual(max(len(line) for line in text.splitlines()), 120, file)
            self.assertIsNone(BARRED_WORDS.search(text), file)
        for file, node in nodes(ast.FunctionDef):
            self.assertLessEqual(node.end_lineno - node.lineno + 1, 40, (file, node.name))

    def test_statements(self):
        self.assertEqual(nodes(STATEMENTS_BARRED), [])
        for file, node in nodes(ast.Constant):
            self.assertNotIsInstance(node.value, float, file)
            self.assertFalse(isinstance(node.value, str) and "%" in node.value, (file, node.value))
        for file, node in nodes(ast.BinOp):
            if isinstance(node.op, ast.Pow):
                self.assertIsInstance(node.right, ast.Constant, file)
                self.assertIn(node.right.value, range(65), file)

    def test_iterated_at_once(self):
        for file, parent in nodes(ast.AST):
            for node in ast.iter_child_nodes(parent):
                if isinstance(node, ast.Call) and called(node) in ITERATED_AT_ONCE:
                    self.assertTrue(iterates(parent, node), (file, node.lineno))

    def test_is_and_methods(self):
        for file, node in nodes(ast.Compare):
            for sign, other in zip(node.ops, node.comparators):
                if isinstance(sign, (ast.Is, ast.IsNot)):
                    self.assertTrue(isinstance(other, ast.Constant) and other.value in (None, True, False), file)
        for file, node in nodes(ast.Call):
            if isinstance(node.func, ast.Attribute):
                self.assertIn(node.func.attr, METHODS_LET, (file, node.lineno))

    def test_module_level(self):
        for file, tree in trees():
            above = set()
            for place, node in enumerate(tree.body):
                if isinstance(node, ast.FunctionDef):
                    above.add(node.name)
                if isinstance(node, ast.Expr):
                    self.assertTrue(place == 0 and isinstance(node.value, ast.Constant), (file, node.lineno))
                elif isinstance(node, ast.Assign):
                    self.assertEqual([isinstance(target, ast.Name) for target in node.targets], [True], file)
                    self.plain(file, node.value, above)
                else:
                    self.assertIsInstance(node, (ast.ImportFrom, ast.FunctionDef, ast.ClassDef), (file, node.lineno))

    def plain(self, file, value, above):
        """A value of the module level is a plain one, or a list, tuple or dict of such and of functions above it."""
        kinds = (ast.Constant, ast.Tuple, ast.List, ast.Dict, ast.Name, ast.BinOp, ast.UnaryOp, ast.operator, ast.unaryop)
        for node in ast.walk(value):
            self.assertIsInstance(node, kinds + (ast.Load,), (file, value.lineno))
            self.assertTrue(not isinstance(node, ast.Name) or node.id in above, (file, value.lineno))
        if isinstance(value, (ast.List, ast.Dict)):
            inner = [node for node in ast.walk(value) if isinstance(node, (ast.List, ast.Dict))]
            self.assertEqual(inner, [value], (file, value.lineno))

    def test_classes(self):
        methods, attributes = set(), set()
        for file, node in nodes(ast.ClassDef):
            self.assertEqual(node.decorator_list, [], file)
            names = [part.name for part in node.body if isinstance(part, ast.FunctionDef)]
            self.assertEqual(len(names), len(set(names)), file)
            methods |= set(names)
        for file, node in nodes(ast.Attribute):
            if isinstance(node.ctx, ast.Store):
                attributes.add(node.attr)
        self.assertEqual(methods & attributes, set())
        read = {node.attr for file, node in nodes(ast.Attribute) if isinstance(node.ctx, ast.Load)}
        self.assertLessEqual(read, attributes | METHODS_LET)
        self.assertFalse(attributes & METHODS_LET)

    def test_raised_on_the_spot(self):
        errors = {node.name for file, node in nodes(ast.ClassDef) if file.name == "errors.py"}
        for file, node in nodes(ast.Raise):
            self.assertTrue(isinstance(node.exc, ast.Call) and called(node.exc) in errors, (file, node.lineno))
        for file, node in nodes(ast.ExceptHandler):
            self.assertIn(getattr(node.type, "id", None), errors, (file, node.lineno))

    def test_generators_and_sets(self):
        self.assertEqual(nodes((ast.Set, ast.SetComp, ast.Yield, ast.YieldFrom)), [])
        for file, parent in nodes(ast.AST):
            for node in ast.iter_child_nodes(parent):
                if isinstance(node, ast.GeneratorExp):
                    self.assertTrue(isinstance(parent, ast.Call) and called(parent) in ("any", "all"), (file, node.lineno))
                if isinstance(node, ast.Starred):
                    self.assertIsInstance(node.value, ast.Name, (file, node.lineno))

    def test_imports(self):
        for file, tree in trees():
            heads = [node for node in tree.body if isinstance(node, ast.ImportFrom)]
            self.assertEqual(heads, [node for node in ast.walk(tree) if isinstance(node, ast.ImportFrom)], file)
            for node in heads:
                self.assertEqual((node.level, node.module.split(".")[0]), (0, "bentstretch"), file)
                source = ROOT.joinpath(*node.module.split(".")).with_suffix(".py")
                defined = {part.name for part in ast.parse(source.read_text()).body if hasattr(part, "name")}
                self.assertLessEqual({alias.name for alias in node.names}, defined, file)

    def test_no_circle_of_imports(self):
        heads = {}
        for file, tree in trees():
            name = ".".join(file.relative_to(ROOT).with_suffix("").parts)
            heads[name] = [node.module for node in tree.body if isinstance(node, ast.ImportFrom)]
        while heads:
            free = [name for name in heads if not any(module in heads for module in heads[name])]
            self.assertTrue(free, heads)
            heads = {name: heads[name] for name in heads if name not in free}

    def test_names(self):
        for file, tree in trees():
            for name in names_bound(tree) + imported(tree):
                self.assertRegex(name, r"^[A-Za-z][A-Za-z0-9_]*$", file)
                self.assertFalse(hasattr(builtins, name) or name in BARRED_NAMES, (file, name))
            self.assertEqual(set(names_bound(tree)) & set(imported(tree)), set(), file)

    def test_names_used_are_let(self):
        for file, tree in trees():
            known = set(names_bound(tree)) | set(imported(tree)) | BUILTINS_LET
            used = {node.id for node in ast.walk(tree) if isinstance(node, ast.Name)}
            self.assertLessEqual(used, known, file)

    def test_imports_are_used(self):
        for file, tree in trees():
            used = {node.id for node in ast.walk(tree) if isinstance(node, ast.Name)}
            self.assertLessEqual(set(imported(tree)), used, file)


if __name__ == "__main__":
    unittest.main()
