"""The package keeps to some of the rules of LANGUAGE.md; the others are for the reader to look at."""

import ast
import pathlib
import re
import unittest

PACKAGE = pathlib.Path(__file__).resolve().parent.parent / "tablecover"

# L8, without `chr`, which L27 takes away, and `print`, which stands in __main__.py alone.
BUILTINS = set("""
len range enumerate zip min max sum abs sorted reversed int str bool bytes list tuple dict set frozenset isinstance ord
repr any all divmod iter next super Exception ValueError TypeError KeyError IndexError LookupError ZeroDivisionError
ArithmeticError OverflowError RuntimeError NotImplementedError AttributeError StopIteration NotImplemented property
staticmethod classmethod
""".split())

# L25, first list.
METHODS = set("""
append clear copy count endswith extend find get index insert isalnum isalpha isdigit islower isspace isupper items
join keys ljust lower lstrip partition pop remove replace reverse rfind rjust rpartition rsplit rstrip setdefault split
splitlines startswith strip update upper values zfill bit_length sort add discard __init__
""".split())

# L17.
BARRED_WORDS = set("""
type typing typing_extensions enum Enum IntEnum StrEnum Flag IntFlag Generic Protocol ABC ABCMeta namedtuple NamedTuple
TypedDict TYPE_CHECKING abstractmethod
""".split())
BARRED_PARTS = ("dataclass", "overload", "contextmanager")
BARRED_NAMES = set("""
register mro elements open input version_info with_traceback add_note attrgetter breakpoint builtins compile copyright
credits delattr dir eval exec exit gc getattr globals hasattr help id importlib license locals methodcaller os quit
setattr vars sys hash map filter round object print chr format
""".split())

BARRED_NODES = (
    ast.Global, ast.AsyncFunctionDef, ast.AsyncFor, ast.AsyncWith, ast.Await, ast.Import, ast.Div, ast.MatMult,
    ast.TryStar,
)


def sources():
    for path in sorted(PACKAGE.glob("*.py")):
        text = path.read_text(encoding="utf-8")
        yield path.name, text, ast.parse(text)


def bound_names(tree):
    """All names that the file gives to something."""
    for node in ast.walk(tree):
        if isinstance(node, (ast.FunctionDef, ast.ClassDef)):
            yield node.name
        elif isinstance(node, ast.arg):
            yield node.arg
        elif isinstance(node, ast.Name) and isinstance(node.ctx, ast.Store):
            yield node.id
        elif isinstance(node, ast.ExceptHandler) and node.name:
            yield node.name


def own_names(tree):
    """The names that the file defines at module level."""
    for node in tree.body:
        if isinstance(node, (ast.FunctionDef, ast.ClassDef)):
            yield node.name
        elif isinstance(node, ast.Assign):
            yield from [target.id for target in node.targets]


def imports_of(tree):
    """The files of the package and the names that this file takes from them."""
    for node in ast.walk(tree):
        if isinstance(node, ast.ImportFrom):
            yield from [(node.module.partition(".")[2], part.name) for part in node.names]


def module_names(tree):
    yield from own_names(tree)
    yield from [taken for module, taken in imports_of(tree)]


class Language(unittest.TestCase):
    def test_files(self):
        for path in PACKAGE.iterdir():
            if path.name != "__pycache__":
                self.assertRegex(path.name, r"\A[a-z0-9_]+\.py\Z")
        self.assertTrue((PACKAGE / "__init__.py").is_file())

    def test_signs_and_sizes(self):
        for name, text, tree in sources():
            self.assertRegex(text, r"\A[ -~\n]*\Z", name)
            lines = text.split("\n")
            self.assertLessEqual(len(lines), 400, name)
            self.assertLessEqual(max(map(len, lines)), 120, name)
            for node in ast.walk(tree):
                if isinstance(node, ast.FunctionDef):
                    self.assertLessEqual(node.end_lineno - node.lineno + 1, 40, f"{name} {node.name}")

    def test_words(self):
        for name, text, tree in sources():
            self.assertFalse(BARRED_WORDS & set(re.findall(r"\w+", text)), name)
            for part in BARRED_PARTS:
                self.assertNotIn(part, text, name)

    def test_imports(self):
        for name, text, tree in sources():
            for node in ast.walk(tree):
                if isinstance(node, ast.ImportFrom):
                    self.assertIn(node, tree.body, name)
                    self.assertEqual(node.level, 0, name)
                    self.assertRegex(node.module, r"\Atablecover\.[a-z0-9_]+\Z", name)
                    self.assertTrue(all(part.asname is None for part in node.names), name)

    def test_imports_name_the_file_that_defines(self):
        defined = {name[:-3]: set(own_names(tree)) for name, text, tree in sources()}
        for name, text, tree in sources():
            for module, taken in imports_of(tree):
                self.assertIn(taken, defined[module], name)

    def test_no_rings_of_imports(self):
        waiting = {name[:-3]: {module for module, taken in imports_of(tree)} for name, text, tree in sources()}
        while waiting:
            free = [name for name in waiting if not waiting[name] & set(waiting)]
            self.assertTrue(free, f"a ring among {sorted(waiting)}")
            for name in free:
                del waiting[name]

    def test_each_import_is_used(self):
        for name, text, tree in sources():
            read = {node.id for node in ast.walk(tree) if isinstance(node, ast.Name)}
            for module, taken in imports_of(tree):
                self.assertIn(taken, read, name)

    def test_module_level(self):
        plain = (ast.FunctionDef, ast.ClassDef, ast.ImportFrom, ast.Assign, ast.Expr)
        for name, text, tree in sources():
            for node in tree.body:
                self.assertIsInstance(node, plain, name)
                if isinstance(node, ast.Expr):
                    self.assertIs(node, tree.body[0], f"{name}: only a docstring stands alone")
            names = list(module_names(tree))
            self.assertEqual(len(names), len(set(names)), name)

    def test_statements(self):
        for name, text, tree in sources():
            for node in ast.walk(tree):
                where = f"{name}:{getattr(node, 'lineno', 0)}"
                self.assertNotIsInstance(node, BARRED_NODES, where)
                if isinstance(node, ast.Constant):
                    self.assertNotIsInstance(node.value, (float, complex), where)
                    self.assertFalse(isinstance(node.value, str) and "%" in node.value, where)
                if isinstance(node, ast.BinOp) and isinstance(node.op, ast.Pow):
                    self.assertIsInstance(node.right, ast.Constant, where)
                if isinstance(node, ast.Compare):
                    for sign, right in zip(node.ops, node.comparators):
                        if isinstance(sign, (ast.Is, ast.IsNot)):
                            self.assertIn(ast.unparse(right), ("None", "True", "False"), where)

    def test_names(self):
        for name, text, tree in sources():
            imported = {taken for module, taken in imports_of(tree)}
            for bound in bound_names(tree):
                self.assertFalse(bound in BUILTINS | BARRED_NAMES | imported, f"{name} {bound}")
                self.assertTrue(bound == "__init__" or not bound.startswith("_"), f"{name} {bound}")

    def test_no_name_is_a_method_and_an_attribute(self):
        methods, attributes, read = set(), set(), set()
        for name, text, tree in sources():
            called = {id(node.func) for node in ast.walk(tree) if isinstance(node, ast.Call)}
            for node in ast.walk(tree):
                if isinstance(node, ast.ClassDef):
                    methods |= {part.name for part in node.body if isinstance(part, ast.FunctionDef)}
                if isinstance(node, ast.Attribute):
                    if isinstance(node.ctx, ast.Store):
                        attributes.add(node.attr)
                    elif id(node) not in called:
                        read.add(node.attr)
        self.assertFalse(methods & attributes)
        self.assertFalse(methods & METHODS - {"__init__"})
        self.assertLessEqual(read, attributes)

    def test_only_told_builtins_and_methods(self):
        own = {bound for name, text, tree in sources() for bound in bound_names(tree)}
        for name, text, tree in sources():
            known = set(bound_names(tree)) | set(module_names(tree)) | BUILTINS
            for node in ast.walk(tree):
                if isinstance(node, ast.Name) and isinstance(node.ctx, ast.Load):
                    self.assertIn(node.id, known, f"{name}:{node.lineno}")
                if isinstance(node, ast.Call) and isinstance(node.func, ast.Attribute):
                    self.assertIn(node.func.attr, METHODS | own, f"{name}:{node.lineno}")


if __name__ == "__main__":
    unittest.main()
