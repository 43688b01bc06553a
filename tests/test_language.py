"""Checks of the package's files against the plain rules of LANGUAGE.md that a reader of trees can decide."""

import ast
import builtins
import pathlib
import re
import unittest
import warnings

PACKAGE = pathlib.Path(__file__).resolve().parent.parent / "formrings"
BUILTINS = set(
    "len range enumerate zip min max sum abs sorted reversed int str bool list tuple dict set isinstance ord repr any "
    "all divmod iter next map property classmethod staticmethod Exception ValueError TypeError KeyError IndexError "
    "LookupError ZeroDivisionError ArithmeticError OverflowError RuntimeError NotImplementedError NotImplemented".split())
LIBRARY = {"math": {"gcd", "lcm", "isqrt", "comb", "perm", "factorial"}}
NEVER = set("register mro elements open input law version_info with_traceback add_note".split())
NO_NAMES = set(dir(builtins)) | set("attrgetter gc importlib methodcaller os sys".split())
NO_WORDS = re.compile(
    r"\b(type|typing|typing_extensions|enum|Enum|IntEnum|Flag|Generic|Protocol|ABC|namedtuple|NamedTuple|TypedDict)\b"
    r"|dataclass|overload|contextmanager|Meta\b|metaclass=|_wall|_WallAttr")
DOUBLE = set(
    "__init__ __eq__ __str__ __len__ __iter__ __call__ __bool__ __neg__ __add__ __sub__ __mul__ __getitem__ "
    "__contains__".split())
NO_NODES = (
    ast.Global, ast.Nonlocal, ast.AsyncFunctionDef, ast.Await, ast.Try, ast.With, ast.Match, ast.Import, ast.Set,
    ast.SetComp, ast.GeneratorExp, ast.Lambda, ast.AnnAssign, ast.NamedExpr, ast.Starred, ast.Div)


def modules():
    """The pairs of a name and a text of all files of the package."""
    return [(str(path.relative_to(PACKAGE)), path.read_text("utf-8")) for path in sorted(PACKAGE.rglob("*.py"))]


def trees():
    return [(name, ast.parse(text)) for name, text in modules()]


def bound_names(tree):
    """The names of functions, classes, parameters, variables and imports."""
    for node in ast.walk(tree):
        if isinstance(node, ast.arg):
            yield node.arg
        elif isinstance(node, ast.Name) and not isinstance(node.ctx, ast.Load):
            yield node.id
        elif isinstance(node, ast.ClassDef):
            yield node.name
        elif isinstance(node, ast.alias):
            yield node.name


class Language(unittest.TestCase):
    def test_files(self):
        self.assertGreater(len(modules()), 5)
        for path in PACKAGE.rglob("*"):
            if "__pycache__" in path.parts:
                continue
            if path.is_dir():
                self.assertTrue((path / "__init__.py").exists(), path)
                self.assertFalse(path.with_suffix(".py").exists(), path)
            else:
                self.assertRegex(path.name, r"^[a-z0-9_]+\.py$")

    def test_characters_and_sizes(self):
        for name, text in modules():
            self.assertLess(len(text.splitlines()), 400, name)
            self.assertTrue(all(sign == "\n" or " " <= sign <= "~" for sign in text), name)
            self.assertTrue(all(len(line) <= 120 for line in text.splitlines()), name)

    def test_functions_are_short(self):
        for name, tree in trees():
            for node in ast.walk(tree):
                if isinstance(node, ast.FunctionDef):
                    self.assertLessEqual(node.end_lineno - node.lineno + 1, 40, (name, node.name))

    def test_no_warnings(self):
        with warnings.catch_warnings():
            warnings.simplefilter("error")
            for name, text in modules():
                compile(text, name, "exec")

    def test_module_level(self):
        allowed = (ast.ImportFrom, ast.FunctionDef, ast.ClassDef, ast.Assign)
        for name, tree in trees():
            for node in tree.body:
                docstring = isinstance(node, ast.Expr) and isinstance(node.value, ast.Constant)
                self.assertTrue(docstring or isinstance(node, allowed), (name, node.lineno))

    def test_imports(self):
        for name, tree in trees():
            for node in ast.walk(tree):
                if not isinstance(node, ast.ImportFrom):
                    continue
                names = {alias.name for alias in node.names}
                self.assertTrue(node.level == 0 and all(alias.asname is None for alias in node.names), name)
                if node.module in LIBRARY:
                    self.assertLessEqual(names, LIBRARY[node.module], name)
                    continue
                path = PACKAGE.parent / (node.module.replace(".", "/") + ".py")
                target = ast.parse(path.read_text("utf-8"))
                defined = {item.name for item in target.body if isinstance(item, (ast.FunctionDef, ast.ClassDef))}
                for item in target.body:
                    if isinstance(item, ast.Assign):
                        defined.add(item.targets[0].id)
                self.assertLessEqual(names, defined, name)

    def test_imports_are_used(self):
        for name, tree in trees():
            names = {alias.name for node in ast.walk(tree) if isinstance(node, ast.ImportFrom) for alias in node.names}
            used = {node.id for node in ast.walk(tree) if isinstance(node, ast.Name)}
            self.assertLessEqual(names, used, name)

    def test_no_cycles(self):
        needs = {}
        for name, tree in trees():
            module = "formrings." + name[:-3].replace("/", ".")
            needs[module] = {node.module for node in ast.walk(tree) if isinstance(node, ast.ImportFrom)}
        while needs:
            free = [module for module in needs if not needs[module] & set(needs)]
            self.assertTrue(free, sorted(needs))
            for module in free:
                del needs[module]

    def test_names(self):
        for name, tree in trees():
            imported = {alias.name for node in ast.walk(tree) if isinstance(node, ast.ImportFrom) for alias in node.names}
            classes = {node.name for node in ast.walk(tree) if isinstance(node, ast.ClassDef)}
            for found in bound_names(tree):
                self.assertNotIn(found, NO_NAMES | NEVER, name)
            for node in ast.walk(tree):
                if isinstance(node, ast.arg):
                    self.assertNotIn(node.arg, imported | classes, name)
                elif isinstance(node, ast.Name) and not isinstance(node.ctx, ast.Load):
                    self.assertNotIn(node.id, imported | classes, (name, node.lineno))
                elif isinstance(node, ast.FunctionDef):
                    self.assertNotIn(node.name, NEVER, name)
                    if node.name.startswith("__"):
                        self.assertIn(node.name, DOUBLE, name)
                elif isinstance(node, ast.Attribute):
                    self.assertNotIn(node.attr, NEVER, name)

    def test_builtins(self):
        known = set(dir(builtins))
        for name, tree in trees():
            for node in ast.walk(tree):
                if isinstance(node, ast.Name) and node.id in known:
                    self.assertIn(node.id, BUILTINS, (name, node.lineno))

    def test_words_and_strings(self):
        for name, tree in trees():
            text = ast.unparse(tree)
            for node in ast.walk(tree):
                if isinstance(node, (ast.Module, ast.ClassDef, ast.FunctionDef)) and ast.get_docstring(node):
                    text = text.replace(node.body[0].value.value, "")
                if isinstance(node, ast.Constant):
                    self.assertNotIsInstance(node.value, float)
                    self.assertFalse(isinstance(node.value, str) and "%" in node.value, (name, node.lineno))
            self.assertIsNone(NO_WORDS.search(text), name)

    def test_statements_and_expressions(self):
        for name, tree in trees():
            for node in ast.walk(tree):
                where = (name, getattr(node, "lineno", 0))
                self.assertNotIsInstance(node, NO_NODES, where)
                if isinstance(node, ast.AugAssign):
                    self.assertIsInstance(node.value, ast.Constant, where)
                if isinstance(node, ast.BinOp) and isinstance(node.op, ast.Pow):
                    self.assertIsInstance(node.right, ast.Constant, where)
                if isinstance(node, ast.Compare) and any(isinstance(op, (ast.Is, ast.IsNot)) for op in node.ops):
                    self.assertTrue(all(isinstance(side, ast.Constant) for side in node.comparators), where)
                if isinstance(node, ast.Call):
                    self.assertFalse(node.keywords and isinstance(node.func, ast.Name) and node.func.id in BUILTINS)

    def test_tables_are_not_passed_on(self):
        for name, tree in trees():
            tables = {node.targets[0].id for node in tree.body
                      if isinstance(node, ast.Assign) and isinstance(node.value, (ast.Dict, ast.List))}
            free = set()
            for node in ast.walk(tree):
                if isinstance(node, ast.Subscript):
                    free.add(node.value)
                elif isinstance(node, ast.Compare) and isinstance(node.ops[-1], (ast.In, ast.NotIn)):
                    free.add(node.comparators[-1])
            for node in ast.walk(tree):
                if isinstance(node, ast.Name) and isinstance(node.ctx, ast.Load) and node.id in tables:
                    self.assertIn(node, free, (name, node.lineno))

    def test_decorators(self):
        for name, tree in trees():
            for node in ast.walk(tree):
                if isinstance(node, (ast.FunctionDef, ast.ClassDef)):
                    found = [getattr(item, "id", None) for item in node.decorator_list]
                    self.assertIn(found, ([], ["property"], ["classmethod"]), (name, node.name))


if __name__ == "__main__":
    unittest.main()
