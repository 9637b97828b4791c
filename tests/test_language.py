"""The rules of the language subset that a reading of the source can check."""

import ast
import builtins
import pathlib
import re
import tokenize
import unittest

import sheetproofs

FOLDER = pathlib.Path(sheetproofs.__file__).parent
LIBRARY = {"math": ("gcd", "lcm", "isqrt", "comb", "perm", "factorial")}
BUILTINS = """len range enumerate zip min max sum abs sorted reversed int str bool list tuple dict set
    isinstance ord repr any all divmod Exception ValueError TypeError KeyError IndexError LookupError
    ZeroDivisionError ArithmeticError OverflowError RuntimeError NotImplementedError AttributeError
    StopIteration NotImplemented property staticmethod classmethod iter next super""".split()
METHODS = """append clear copy count endswith extend find get index insert isalnum isalpha isdigit islower
    isspace isupper items join keys ljust lower lstrip partition pop remove replace reverse rfind rjust
    rpartition rsplit rstrip setdefault split splitlines startswith strip update upper values zfill
    bit_length""".split()
# Forms that the subset bars, or that it binds to so many conditions that this program does without.
BARRED = (ast.Global, ast.AsyncFunctionDef, ast.AsyncFor, ast.AsyncWith, ast.Await, ast.Set, ast.SetComp,
          ast.GeneratorExp, ast.Div, ast.Pow, ast.MatMult, ast.Starred, ast.Match, ast.With, ast.NamedExpr,
          ast.Import, ast.AnnAssign, ast.Nonlocal, ast.TryStar)
SPECIAL = ("__init__", "__eq__", "__len__", "__iter__", "__call__")
BAD_NAMES = """register mro elements open input law version_info with_traceback add_note attrgetter breakpoint
    builtins compile copyright credits delattr dir eval exec exit gc getattr globals hasattr help id
    importlib license locals methodcaller os quit setattr super type vars sys _cold _tuplegetter _outside
    _record _written_out _member_names""".split()
BAD_WORDS = re.compile(r"\b(type|typing|typing_extensions|enum|Enum|IntEnum|StrEnum|Flag|IntFlag|Generic|"
                       r"Protocol|ABC|ABCMeta|namedtuple|NamedTuple|TypedDict|TYPE_CHECKING|abstractmethod)\b|"
                       r"dataclass|overload|contextmanager")


def sources():
    """Return the name, the text and the tree of every file of the package."""
    found = []
    for path in sorted(FOLDER.glob("*.py")):
        text = path.read_text(encoding="utf-8")
        found.append((path.name, text, ast.parse(text)))
    return found


def bound_names(tree):
    """Return all names that a tree binds: variables, parameters, functions and classes."""
    names = []
    for node in ast.walk(tree):
        if isinstance(node, ast.Name) and isinstance(node.ctx, ast.Store):
            names.append(node.id)
        elif isinstance(node, ast.arg):
            names.append(node.arg)
        elif isinstance(node, (ast.FunctionDef, ast.ClassDef)):
            names.append(node.name)
        elif isinstance(node, ast.ExceptHandler) and node.name:
            names.append(node.name)
        elif isinstance(node, ast.alias):
            names.append(node.asname or node.name)
    return names


def docstrings(tree):
    """Return the nodes of all docstrings."""
    found = []
    for node in ast.walk(tree):
        if isinstance(node, (ast.Module, ast.ClassDef, ast.FunctionDef)):
            first = node.body[0] if node.body else None
            if isinstance(first, ast.Expr) and isinstance(first.value, ast.Constant):
                found.append(first.value)
    return found


class TestFiles(unittest.TestCase):
    def test_folder(self):
        for path in FOLDER.iterdir():
            if path.name != "__pycache__":
                self.assertRegex(path.name, r"\A[a-z_0-9]+\.py\Z")

    def test_lines_and_characters(self):
        for name, text, _ in sources():
            self.assertRegex(text, r"\A[ -~\n]*\n\Z", name)
            self.assertLess(len(text.splitlines()), 400, name)
            for line in text.splitlines():
                self.assertLessEqual(len(line), 120, name)
                self.assertEqual(line, line.rstrip(), name)
            self.assertNotIn("_wall", text, name)

    def test_functions_are_short(self):
        for name, _, tree in sources():
            for node in ast.walk(tree):
                if isinstance(node, ast.FunctionDef):
                    self.assertLessEqual(node.end_lineno - node.lineno + 1, 40, (name, node.name))

    def test_words_outside_of_comments(self):
        for name, _, tree in sources():
            texts = docstrings(tree)
            for node in ast.walk(tree):
                if isinstance(node, ast.Constant) and isinstance(node.value, str):
                    self.assertNotIn("%", node.value, name)
                    if not any(node is text for text in texts):
                        self.assertNotRegex(node.value, BAD_WORDS, name)
                        self.assertNotRegex(node.value, r"__|\._\Z", name)
            with open(FOLDER / name, "rb") as file:
                for token in tokenize.tokenize(file.readline):
                    if token.type == tokenize.NAME:
                        self.assertNotRegex(token.string, BAD_WORDS, name)


class TestForms(unittest.TestCase):
    def test_barred_forms(self):
        for name, _, tree in sources():
            for node in ast.walk(tree):
                self.assertNotIsInstance(node, BARRED, (name, getattr(node, "lineno", 0)))
                if isinstance(node, ast.Constant):
                    self.assertNotIsInstance(node.value, (float, complex), name)
                if isinstance(node, ast.arguments):
                    self.assertFalse(node.vararg or node.kwarg or node.kwonlyargs or node.posonlyargs, name)

    def test_module_level(self):
        for name, _, tree in sources():
            names = []
            for at, node in enumerate(tree.body):
                if isinstance(node, ast.Expr):
                    self.assertEqual(at, 0, name)
                    self.assertIsInstance(node.value.value, str, name)
                elif isinstance(node, ast.Assign):
                    self.assertEqual([target.__class__ for target in node.targets], [ast.Name], name)
                    self.assertIsNotNone(ast.literal_eval(node.value), name)
                    names.append(node.targets[0].id)
                else:
                    self.assertIsInstance(node, (ast.ImportFrom, ast.FunctionDef, ast.ClassDef), name)
                    if isinstance(node, ast.ImportFrom):
                        names += [alias.name for alias in node.names]
                    else:
                        names.append(node.name)
            self.assertEqual(len(names), len(set(names)), name)

    def test_only_init_binds_nothing(self):
        tree = ast.parse((FOLDER / "__init__.py").read_text())
        self.assertEqual(len(tree.body), 1)

    def test_identity(self):
        for name, _, tree in sources():
            for node in ast.walk(tree):
                if isinstance(node, ast.Compare):
                    for sign, side in zip(node.ops, node.comparators):
                        if isinstance(sign, (ast.Is, ast.IsNot)):
                            self.assertIsInstance(side, ast.Constant, (name, node.lineno))

    def test_errors_are_raised_and_caught_by_name(self):
        own = [node.name for name, _, tree in sources() if name == "errors.py"
               for node in tree.body if isinstance(node, ast.ClassDef)]
        for name, _, tree in sources():
            for node in ast.walk(tree):
                if isinstance(node, ast.Raise) and node.exc is not None:
                    self.assertIsInstance(node.exc, ast.Call, (name, node.lineno))
                    self.assertIn(node.exc.func.id, own, (name, node.lineno))
                if isinstance(node, ast.ExceptHandler):
                    self.assertIn(node.type.id, own, (name, node.lineno))
                if isinstance(node, ast.Try):
                    # In a finally only a name is given to an attribute.
                    for last in node.finalbody:
                        self.assertIsInstance(last, ast.Assign, (name, last.lineno))
                        self.assertIsInstance(last.targets[0], ast.Attribute, (name, last.lineno))
                        self.assertIsInstance(last.value, ast.Name, (name, last.lineno))

    def test_decorators_and_methods(self):
        for name, _, tree in sources():
            for node in ast.walk(tree):
                if isinstance(node, ast.ClassDef):
                    self.assertEqual(node.decorator_list, [], name)
                if isinstance(node, ast.FunctionDef):
                    for decorator in node.decorator_list:
                        self.assertIn(decorator.id, ("property", "staticmethod"), name)
                    if node.name.startswith("__"):
                        self.assertIn(node.name, SPECIAL, name)
                    for default in node.args.defaults:
                        ast.literal_eval(default)


class TestNames(unittest.TestCase):
    def test_imports(self):
        needs = {}
        for name, _, tree in sources():
            needs[name] = []
            for node in tree.body:
                if not isinstance(node, ast.ImportFrom):
                    continue
                self.assertEqual(node.level, 0, name)
                for alias in node.names:
                    self.assertIsNone(alias.asname, name)
                if node.module in LIBRARY:
                    for alias in node.names:
                        self.assertIn(alias.name, LIBRARY[node.module], name)
                    continue
                package, file = node.module.split(".")
                self.assertEqual(package, "sheetproofs", name)
                needs[name].append(f"{file}.py")
                told = ast.parse((FOLDER / f"{file}.py").read_text())
                defined = [part.name for part in told.body if isinstance(part, (ast.FunctionDef, ast.ClassDef))]
                defined += [part.targets[0].id for part in told.body if isinstance(part, ast.Assign)]
                for alias in node.names:
                    self.assertIn(alias.name, defined, name)
        while needs:
            free = [name for name in needs if not any(need in needs for need in needs[name])]
            self.assertNotEqual(free, [], f"imports go round in {sorted(needs)}")
            needs = {name: needs[name] for name in needs if name not in free}

    def test_every_import_is_used(self):
        for name, _, tree in sources():
            read = [node.id for node in ast.walk(tree) if isinstance(node, ast.Name)]
            for node in tree.body:
                if isinstance(node, ast.ImportFrom):
                    for alias in node.names:
                        self.assertIn(alias.name, read, name)

    def test_bound_names(self):
        for name, _, tree in sources():
            taken = [alias.name for node in tree.body if isinstance(node, ast.ImportFrom) for alias in node.names]
            taken += [node.name for node in tree.body if isinstance(node, (ast.ClassDef, ast.FunctionDef))]
            inner = []
            for node in tree.body:
                if isinstance(node, (ast.FunctionDef, ast.ClassDef)):
                    for part in ast.iter_child_nodes(node):
                        inner += bound_names(part)
            methods = [node.name for part in tree.body if isinstance(part, ast.ClassDef)
                       for node in part.body if isinstance(node, ast.FunctionDef)]
            for bound in bound_names(tree):
                self.assertNotIn(bound, BAD_NAMES, name)
                self.assertRegex(bound, r"\A(_|_?[A-Za-z][A-Za-z0-9_]*|__[a-z]+__)\Z", name)
                if bound not in methods:
                    self.assertFalse(hasattr(builtins, bound), (name, bound))
            for bound in inner:
                if bound not in methods:
                    self.assertNotIn(bound, taken, name)

    def test_names_that_are_read(self):
        for name, _, tree in sources():
            known = bound_names(tree)
            for node in ast.walk(tree):
                if isinstance(node, ast.Name) and isinstance(node.ctx, ast.Load):
                    self.assertIn(node.id, known + BUILTINS, (name, node.lineno))
                    self.assertNotEqual(node.id, "_", (name, node.lineno))

    def test_attributes_and_methods(self):
        assigned, methods = [], []
        for _, _, tree in sources():
            for node in ast.walk(tree):
                if isinstance(node, ast.Attribute) and isinstance(node.ctx, ast.Store):
                    assigned.append(node.attr)
                if isinstance(node, ast.ClassDef):
                    methods += [part.name for part in node.body if isinstance(part, ast.FunctionDef)]
        for name, _, tree in sources():
            for node in ast.walk(tree):
                if isinstance(node, ast.Call) and isinstance(node.func, ast.Attribute):
                    self.assertIn(node.func.attr, METHODS + methods, (name, node.lineno))
                elif isinstance(node, ast.Attribute) and isinstance(node.ctx, ast.Load):
                    self.assertIn(node.attr, assigned + methods + METHODS, (name, node.lineno))

    def test_attributes_are_no_methods_of_the_same_class(self):
        for name, _, tree in sources():
            for node in ast.walk(tree):
                if isinstance(node, ast.ClassDef):
                    methods = [part.name for part in node.body if isinstance(part, ast.FunctionDef)]
                    self.assertEqual(len(methods), len(set(methods)), name)
                    for part in ast.walk(node):
                        if isinstance(part, ast.Attribute) and isinstance(part.ctx, ast.Store):
                            self.assertNotIn(part.attr, methods, name)


if __name__ == "__main__":
    unittest.main()
