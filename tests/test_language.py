"""The rules of LANGUAGE.md that can be read off the package's files."""

import ast
import pathlib
import re
import unittest

PACKAGE = pathlib.Path(__file__).resolve().parent.parent / "roomsharers"

STATEMENTS = (ast.Assign, ast.AugAssign, ast.If, ast.While, ast.For, ast.Return, ast.Break, ast.Continue, ast.Pass,
              ast.Raise, ast.Try, ast.Expr, ast.FunctionDef, ast.ClassDef, ast.ImportFrom)
EXPRESSIONS = (ast.Constant, ast.List, ast.Tuple, ast.Dict, ast.BinOp, ast.UnaryOp, ast.Compare, ast.BoolOp, ast.IfExp,
               ast.Call, ast.Attribute, ast.Subscript, ast.Slice, ast.ListComp, ast.Lambda, ast.Name, ast.JoinedStr,
               ast.FormattedValue)
BUILT_IN = set("""len range enumerate zip min max sum abs sorted reversed int str bool list tuple dict isinstance ord repr
    any all divmod Exception ValueError KeyError IndexError LookupError ZeroDivisionError""".split())
METHODS = set("""append clear copy count endswith extend find get index insert isalnum isalpha isdigit islower isspace
    isupper items join keys ljust lower lstrip partition pop remove replace reverse rfind rjust rpartition rsplit rstrip
    setdefault split splitlines startswith strip update upper values zfill bit_length""".split())
WORDS = set("""type typing typing_extensions enum Enum IntEnum StrEnum Flag IntFlag Generic Protocol ABC ABCMeta
    namedtuple NamedTuple TypedDict TYPE_CHECKING abstractmethod""".split())
UNUSED = set("register mro elements open input version_info with_traceback add_note format format_map".split())


def bound_names(tree):
    """All names that are given to something in a file."""
    for node in ast.walk(tree):
        if isinstance(node, (ast.FunctionDef, ast.ClassDef)):
            yield node.name
        elif isinstance(node, ast.arg):
            yield node.arg
        elif isinstance(node, ast.Name) and isinstance(node.ctx, ast.Store):
            yield node.id
        elif isinstance(node, ast.alias):
            yield node.asname or node.name
        elif isinstance(node, ast.Attribute) and isinstance(node.ctx, ast.Store):
            yield node.attr


class LanguageTest(unittest.TestCase):
    def setUp(self):
        self.texts = {path.name: path.read_text(encoding="utf-8") for path in sorted(PACKAGE.glob("*.py"))}
        self.trees = {name: ast.parse(text) for name, text in self.texts.items()}

    def nodes(self, *kinds):
        for name, tree in self.trees.items():
            for node in ast.walk(tree):
                if isinstance(node, kinds):
                    yield name, node

    def test_files(self):
        found = {path.name for path in PACKAGE.iterdir() if path.name != "__pycache__"}
        self.assertEqual(found, set(self.texts))
        self.assertIn("__init__.py", found)
        for name in found - {"__init__.py"}:
            self.assertRegex(name, r"\A[a-z][a-z0-9_]*\.py\Z")

    def test_size_and_signs(self):
        for name, text in self.texts.items():
            rows = text.split("\n")
            self.assertLessEqual(len(rows), 400, name)
            for row in rows:
                self.assertLessEqual(len(row), 120, name)
                self.assertRegex(row, r"\A[ -~]*\Z", name)
        for name, node in self.nodes(ast.FunctionDef):
            self.assertLessEqual(node.end_lineno - node.lineno + 1, 40, f"{name} {node.name}")

    def test_words(self):
        for name, text in self.texts.items():
            self.assertEqual(set(re.findall(r"\w+", text)) & WORDS, set(), name)
            self.assertNotRegex(text, "dataclass|overload|contextmanager", name)

    def test_only_the_statements_and_expressions_that_are_allowed(self):
        for name, node in self.nodes(ast.stmt):
            self.assertIsInstance(node, STATEMENTS, f"{name} {node.lineno}")
        for name, node in self.nodes(ast.expr):
            self.assertIsInstance(node, EXPRESSIONS, f"{name} {node.lineno}")
        for name, node in self.nodes(ast.Assign):
            self.assertEqual(len(node.targets), 1, f"{name} {node.lineno}")
        for name, node in self.nodes(ast.Expr):
            self.assertIsInstance(node.value, (ast.Call, ast.Constant), f"{name} {node.lineno}")
        for name, node in self.nodes(ast.For, ast.While):
            self.assertEqual(node.orelse, [], f"{name} {node.lineno}")
        for name, node in self.nodes(ast.Constant):
            self.assertIn(type(node.value), (int, str, bool, type(None)), f"{name} {node.lineno}")
        for name, node in self.nodes(ast.Div, ast.Is, ast.IsNot):
            self.fail(name)

    def test_functions_are_plain(self):
        for name, node in self.nodes(ast.FunctionDef):
            given = node.args
            self.assertEqual(node.decorator_list, [], name)
            self.assertEqual((given.vararg, given.kwarg, given.kwonlyargs, given.posonlyargs), (None, None, [], []))
        for name, node in self.nodes(ast.ListComp):
            self.assertEqual(len(node.generators), 1)
            self.assertLessEqual(len(node.generators[0].ifs), 1)

    def test_imports(self):
        drawn = {}
        for name, node in self.nodes(ast.ImportFrom):
            self.assertEqual(node.level, 0)
            self.assertRegex(node.module, r"\Aroomsharers\.[a-z_]+\Z")
            source = node.module.split(".")[1] + ".py"
            drawn.setdefault(name, set()).add(source)
            defined = {x.name for x in self.trees[source].body if isinstance(x, (ast.FunctionDef, ast.ClassDef))}
            defined |= {x.targets[0].id for x in self.trees[source].body if isinstance(x, ast.Assign)}
            for alias in node.names:
                self.assertIn(alias.name, defined, name)
                self.assertIsNone(alias.asname)
        for start in drawn:
            reached = set()
            ahead = set(drawn[start])
            while ahead:
                reached |= ahead
                ahead = {x for y in ahead for x in drawn.get(y, ())} - reached
            self.assertNotIn(start, reached)

    def test_names(self):
        python_names = set(dir(__builtins__) if not isinstance(__builtins__, dict) else __builtins__)
        for name, tree in self.trees.items():
            bound = set(bound_names(tree))
            for word in bound - {"__init__"}:
                self.assertRegex(word, r"\A[A-Za-z][A-Za-z0-9_]*\Z", name)
            self.assertEqual(bound & (python_names | UNUSED), set(), name)
            used = {x.id for x in ast.walk(tree) if isinstance(x, ast.Name) and isinstance(x.ctx, ast.Load)}
            self.assertEqual(used - bound - BUILT_IN, set(), name)

    def test_locals_are_not_called_like_an_import_or_a_class(self):
        for name, tree in self.trees.items():
            taken = {x.name for x in ast.walk(tree) if isinstance(x, (ast.alias, ast.ClassDef))}
            given = {x.arg for x in ast.walk(tree) if isinstance(x, ast.arg)}
            given |= {x.id for x in ast.walk(tree) if isinstance(x, ast.Name) and isinstance(x.ctx, ast.Store)}
            self.assertEqual(taken & given, set(), name)

    def test_no_name_is_a_method_and_a_value(self):
        methods = {x.name for name, node in self.nodes(ast.ClassDef) for x in node.body
                   if isinstance(x, ast.FunctionDef)}
        values = {node.attr for name, node in self.nodes(ast.Attribute) if isinstance(node.ctx, ast.Store)}
        self.assertEqual(methods & values, set())

    def test_methods(self):
        own = {node.name for name, node in self.nodes(ast.FunctionDef)}
        for name, node in self.nodes(ast.Call):
            if isinstance(node.func, ast.Attribute):
                self.assertIn(node.func.attr, METHODS | own, f"{name} {node.lineno}")

    def test_the_top_of_a_file(self):
        for name, tree in self.trees.items():
            tops = []
            for place, node in enumerate(tree.body):
                if isinstance(node, ast.Assign):
                    ast.literal_eval(node.value)
                    tops.append(node.targets[0].id)
                elif isinstance(node, (ast.FunctionDef, ast.ClassDef)):
                    tops.append(node.name)
                elif not isinstance(node, ast.ImportFrom):
                    self.assertEqual(place, 0, name)
                    self.assertIsInstance(node.value, ast.Constant, name)
            self.assertEqual(len(tops), len(set(tops)), name)


if __name__ == "__main__":
    unittest.main()
