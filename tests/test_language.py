"""The package keeps to the small part of Python it is written in, as far as a walk over its code can see."""

import ast
import builtins
import pathlib
import re
import unittest

PACKAGE = pathlib.Path(__file__).resolve().parent.parent / "firstpress"
FILES = {path.stem: path for path in sorted(PACKAGE.glob("*.py"))}
TEXTS = {name: path.read_text(encoding="utf-8") for name, path in FILES.items()}
TREES = {name: ast.parse(text) for name, text in TEXTS.items()}

WORDS = (
    "type typing typing_extensions enum Enum IntEnum StrEnum Flag IntFlag Generic Protocol ABC ABCMeta namedtuple"
    " NamedTuple TypedDict TYPE_CHECKING abstractmethod"
).split()
ALLOWED = set((
    "len range enumerate zip min max sum abs sorted reversed int str bool list tuple dict set frozenset isinstance ord"
    " repr any all divmod Exception ValueError TypeError KeyError IndexError LookupError ZeroDivisionError"
    " ArithmeticError OverflowError RuntimeError NotImplementedError AttributeError StopIteration"
).split())
UNUSED = set((
    "register mro elements open input version_info with_traceback add_note attrgetter breakpoint builtins compile"
    " copyright credits delattr dir eval exec exit gc getattr globals hasattr help id importlib license locals"
    " methodcaller os quit setattr super vars sys"
).split())
METHODS = set((
    "append clear copy count endswith extend find get index insert isalnum isalpha isdigit islower isspace isupper"
    " items join keys ljust lower lstrip partition pop remove replace reverse rfind rjust rpartition rsplit rstrip"
    " setdefault split splitlines startswith strip update upper values zfill bit_length"
).split())
VALUES = set("count index title find get join lower upper split strip copy add".split())
STATEMENTS = (
    ast.FunctionDef, ast.ClassDef, ast.ImportFrom, ast.Assign, ast.AugAssign, ast.If, ast.While, ast.For, ast.Return,
    ast.Break, ast.Continue, ast.Pass, ast.Raise, ast.Try, ast.Expr,
)
BANNED = (
    ast.SetComp, ast.DictComp, ast.GeneratorExp, ast.NamedExpr, ast.Starred, ast.Div, ast.Yield, ast.YieldFrom,
    ast.Await, ast.AnnAssign, ast.MatMult,
)


def nodes(*kinds):
    for name, tree in TREES.items():
        for node in ast.walk(tree):
            if isinstance(node, kinds):
                yield f"{name}.py:{getattr(node, 'lineno', 0)}", node


def top_names(tree):
    found = []
    for node in tree.body:
        if isinstance(node, (ast.FunctionDef, ast.ClassDef)):
            found.append(node.name)
        elif isinstance(node, ast.Assign):
            found.append(node.targets[0].id)
    return found


class Language(unittest.TestCase):
    def test_files(self):
        self.assertIn("__init__", FILES)
        for path in PACKAGE.iterdir():
            if path.name != "__pycache__":
                self.assertRegex(path.name, r"^(__init__|__main__|[a-z][a-z0-9_]*)\.py$")
        for name, text in TEXTS.items():
            self.assertFalse(name in vars(builtins) or name in WORDS or name.startswith("test"), name)
            self.assertLessEqual(text.count("\n"), 400, name)
            for line in text.split("\n"):
                self.assertLessEqual(len(line), 120, line)
                self.assertRegex(line, r"^[ -~]*$")
            found = set(re.findall(r"\w+", text))
            self.assertFalse(found & set(WORDS), name)
            self.assertNotRegex(text, "dataclass|overload|contextmanager")

    def test_imports_are_of_the_file_that_defines_the_name_and_never_in_a_circle(self):
        drawn = {}
        for name, tree in TREES.items():
            rows = [node for node in ast.walk(tree) if isinstance(node, ast.ImportFrom)]
            self.assertTrue(all(row in tree.body for row in rows))
            drawn[name] = [row.module.removeprefix("firstpress.") for row in rows]
            for row, origin in zip(rows, drawn[name]):
                self.assertEqual((row.level, row.module), (0, "firstpress." + origin))
                for alias in row.names:
                    self.assertIn(alias.name, top_names(TREES[origin]))
        self.assertEqual(drawn["__init__"], [])
        left = dict(drawn)
        while left:
            ready = [name for name in left if not set(left[name]) & set(left)]
            self.assertTrue(ready, f"a circle of imports: {left}")
            left = {name: left[name] for name in left if name not in ready}

    def test_the_top_of_a_module(self):
        kinds = (ast.ImportFrom, ast.FunctionDef, ast.ClassDef, ast.Assign)
        for name, tree in TREES.items():
            self.assertIsNotNone(ast.get_docstring(tree), name)
            self.assertTrue(all(isinstance(node, kinds) for node in tree.body[1:]), name)
            names = top_names(tree)
            self.assertEqual(len(names), len(set(names)), name)
            for node in tree.body:
                if isinstance(node, ast.Assign):
                    ast.literal_eval(node.value)

    def test_statements(self):
        for place, node in nodes(ast.stmt):
            with self.subTest(place):
                self.assertIsInstance(node, STATEMENTS)
                if isinstance(node, ast.Assign):
                    self.assertEqual(len(node.targets), 1)
                if isinstance(node, (ast.For, ast.While)):
                    self.assertFalse(node.orelse)
                if isinstance(node, ast.Expr) and node not in [tree.body[0] for tree in TREES.values()]:
                    self.assertIsInstance(node.value, ast.Call)

    def test_functions_and_classes(self):
        for place, node in nodes(ast.FunctionDef):
            with self.subTest(place):
                given = node.args
                self.assertFalse(given.vararg or given.kwarg or given.kwonlyargs or given.posonlyargs)
                self.assertFalse(node.decorator_list)
                self.assertLessEqual(node.end_lineno - node.lineno + 1, 40)
        for place, node in nodes(ast.ClassDef):
            with self.subTest(place):
                self.assertFalse(node.decorator_list or node.keywords)
                self.assertLessEqual(len(node.bases), 1)
                self.assertTrue(all(isinstance(part, (ast.FunctionDef, ast.Pass)) for part in node.body))

    def test_expressions(self):
        self.assertEqual([place for place, _ in nodes(*BANNED)], [])
        for place, node in nodes(ast.ListComp, ast.Constant, ast.Compare, ast.FormattedValue):
            with self.subTest(place):
                if isinstance(node, ast.ListComp):
                    self.assertEqual(len(node.generators), 1)
                    self.assertLessEqual(len(node.generators[0].ifs), 1)
                elif isinstance(node, ast.Constant):
                    self.assertIsInstance(node.value, (int, str, type(None)))
                elif isinstance(node, ast.FormattedValue):
                    self.assertIsInstance(node.value, ast.Name)
                elif any(isinstance(sign, (ast.Is, ast.IsNot)) for sign in node.ops):
                    self.assertIsInstance(node.comparators[0], ast.Constant)

    def test_names(self):
        for place, node in nodes(ast.Name, ast.arg):
            name = node.id if isinstance(node, ast.Name) else node.arg
            with self.subTest(place, name=name):
                self.assertRegex(name, r"^[A-Za-z][A-Za-z0-9_]*$")
                self.assertNotIn(name, UNUSED)
                if hasattr(builtins, name):
                    self.assertIn(name, ALLOWED)
                    self.assertIsInstance(getattr(node, "ctx", None), ast.Load)

    def test_no_local_is_called_like_a_class_or_an_import(self):
        for file, tree in TREES.items():
            taken = {alias.name for node in tree.body if isinstance(node, ast.ImportFrom) for alias in node.names}
            taken |= {node.name for node in tree.body if isinstance(node, ast.ClassDef)}
            for node in ast.walk(tree):
                if isinstance(node, ast.arg):
                    self.assertNotIn(node.arg, taken, file)
                if isinstance(node, ast.Name) and isinstance(node.ctx, ast.Store):
                    self.assertNotIn(node.id, taken, file)

    def test_methods_and_values(self):
        own = {part.name for _, node in nodes(ast.ClassDef) for part in node.body if isinstance(part, ast.FunctionDef)}
        values = {node.attr for _, node in nodes(ast.Attribute) if isinstance(node.ctx, ast.Store)}
        plain = {name for kind in (str, int, list, dict, set, bytes) for name in dir(kind)}
        self.assertFalse(own & values)
        self.assertFalse((values & plain) - VALUES)
        self.assertFalse((own & plain) - METHODS - {"add", "discard", "__init__"})
        for place, node in nodes(ast.Attribute):
            with self.subTest(place):
                self.assertRegex(node.attr, r"^[a-z][a-z0-9_]*$")
                self.assertIn(node.attr, own | values | METHODS)
                self.assertNotIn(node.attr, UNUSED)


if __name__ == "__main__":
    unittest.main()
