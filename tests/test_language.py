"""The package keeps to the small part of Python that it is written in.

What can be told from a file's text and its tree is looked at here, rule by
rule; the rules' numbers stand in what a failing test says.
"""

import ast
import builtins
import pathlib
import re
import unittest

PACKAGE = pathlib.Path(__file__).resolve().parent.parent / "runwishes"
FILES = sorted(path for path in PACKAGE.iterdir() if path.name != "__pycache__")
SOURCES = {path.name: path.read_text(encoding="utf-8") for path in FILES if path.suffix == ".py"}
TREES = {name: ast.parse(source) for name, source in SOURCES.items()}

ERRORS = """Exception ValueError TypeError KeyError IndexError LookupError ZeroDivisionError ArithmeticError
    OverflowError RuntimeError NotImplementedError AttributeError StopIteration""".split()
OWN_OF_PYTHON = ERRORS + """len range enumerate zip min max sum abs sorted reversed int str bool list tuple dict set
    frozenset isinstance ord repr any all divmod""".split()
METHODS = """append clear copy count endswith extend find get index insert isalnum isalpha isdigit islower isspace
    isupper items join keys ljust lower lstrip partition pop remove replace reverse rfind rjust rpartition rsplit
    rstrip setdefault split splitlines startswith strip update upper values zfill bit_length""".split()
WORDS = """type typing typing_extensions enum Enum IntEnum StrEnum Flag IntFlag Generic Protocol ABC ABCMeta namedtuple
    NamedTuple TypedDict TYPE_CHECKING abstractmethod""".split()
NOWHERE = "register mro elements open input version_info with_traceback add_note format format_map".split()
NOT_AS_VALUES = """items keys values pop update append clear extend insert remove reverse setdefault sort args encode
    format""".split()
MAY_BE_VALUES = "count index title find get join lower upper split strip copy add".split()

WALKING = "list tuple dict sorted sum any all enumerate zip min max".split()
TO_BE_WALKED = "zip enumerate reversed range items keys values".split()

TOP = (ast.ImportFrom, ast.FunctionDef, ast.ClassDef, ast.Assign)
STATEMENTS = (ast.Assign, ast.AugAssign, ast.If, ast.While, ast.For, ast.Return, ast.Break, ast.Continue, ast.Pass,
              ast.Raise, ast.Try, ast.Expr, ast.FunctionDef, ast.ClassDef, ast.ImportFrom)
NOT_USED = (ast.Set, ast.SetComp, ast.DictComp, ast.GeneratorExp, ast.NamedExpr, ast.Starred, ast.Div, ast.MatMult,
            ast.Await, ast.Yield, ast.YieldFrom, ast.Lambda)


def nodes_of(kind):
    for name, tree in TREES.items():
        for node in ast.walk(tree):
            if isinstance(node, kind):
                yield f"{name}:{getattr(node, 'lineno', 0)}", node


def called(node):
    """The name of the function or the method that is called."""
    return node.func.attr if isinstance(node.func, ast.Attribute) else getattr(node.func, "id", "")


def is_plain(node):
    if isinstance(node, ast.Constant):
        return node.value is None or isinstance(node.value, (int, str))
    if isinstance(node, ast.UnaryOp):
        return isinstance(node.op, ast.USub) and is_plain(node.operand)
    if isinstance(node, (ast.Tuple, ast.List)):
        return all(is_plain(one) for one in node.elts)
    return isinstance(node, ast.Dict) and all(is_plain(one) for one in node.keys + node.values)


def bound_names():
    """Every name that is given a meaning, with where."""
    for where, node in nodes_of((ast.FunctionDef, ast.ClassDef)):
        yield where, node.name
    for where, node in nodes_of(ast.arg):
        yield where, node.arg
    for where, node in nodes_of(ast.Name):
        if isinstance(node.ctx, ast.Store):
            yield where, node.id
    for where, node in nodes_of(ast.ExceptHandler):
        if node.name:
            yield where, node.name


class Files(unittest.TestCase):
    def test_L1_L14_nothing_else_lies_in_it(self):
        for path in FILES:
            self.assertRegex(path.name, r"^[a-z][a-z0-9_]*\.py$|^__init__\.py$", "L1, L14")
            self.assertNotIn(path.stem, dir(builtins), "L14")
            self.assertIsNone(re.match("test|site|conftest|usercustomize", path.stem), "L14")

    def test_L10_L14_sizes_and_signs(self):
        for name, source in SOURCES.items():
            rows = source.split("\n")
            self.assertLessEqual(len(rows), 400, f"L10 {name}")
            for number, line in enumerate(rows, 1):
                self.assertLessEqual(len(line), 120, f"L10 {name}:{number}")
                self.assertRegex(line, "^[ -~]*$", f"L14 {name}:{number}")
        for where, node in nodes_of(ast.FunctionDef):
            self.assertLessEqual(node.end_lineno - node.lineno + 1, 40, f"L10 {where}")

    def test_L17_words(self):
        for name, source in SOURCES.items():
            for word in re.findall(r"\w+", source):
                self.assertNotIn(word, WORDS, f"L17 {name}")
                self.assertIsNone(re.search("dataclass|overload|contextmanager", word), f"L17 {name}")


class Top(unittest.TestCase):
    def test_L3_what_stands_there(self):
        for name, tree in TREES.items():
            self.assertIsNotNone(ast.get_docstring(tree), f"L3 {name}")
            for node in tree.body[1:]:
                self.assertIsInstance(node, TOP, f"L3 {name}:{node.lineno}")
                if isinstance(node, ast.Assign):
                    self.assertTrue(is_plain(node.value), f"L3 {name}:{node.lineno}")

    def test_L2_L16_imports(self):
        draws = {}
        for name, tree in TREES.items():
            draws[name] = []
            for node in tree.body:
                if isinstance(node, ast.ImportFrom):
                    self.assertEqual(node.level, 0, f"L2 {name}")
                    self.assertRegex(node.module, r"^runwishes\.[a-z]+$", f"L2 {name}")
                    source = node.module.split(".")[1] + ".py"
                    draws[name].append(source)
                    for alias in node.names:
                        self.assertIn(alias.name, top_names(source), f"L16 {name}")
        for name in draws:
            self.assertNotIn(name, reached(draws, name), f"L16 {name}")
        self.assertEqual(draws["__init__.py"], [], "L16")
        self.assertEqual(len(list(nodes_of(ast.Import))), 0, "L16")

    def test_L15_each_name_once(self):
        for name in TREES:
            found = top_names(name) + imported_names(name)
            self.assertEqual(len(found), len(set(found)), f"L15 {name}")


def top_names(name):
    found = []
    for node in TREES[name].body:
        if isinstance(node, (ast.FunctionDef, ast.ClassDef)):
            found.append(node.name)
        if isinstance(node, ast.Assign):
            found.append(node.targets[0].id)
    return found


def imported_names(name):
    return [alias.asname or alias.name for node in TREES[name].body if isinstance(node, ast.ImportFrom)
            for alias in node.names]


def reached(draws, name):
    found = []
    waiting = list(draws[name])
    while waiting:
        one = waiting.pop()
        if one not in found:
            found.append(one)
            waiting += draws[one]
    return found


class Code(unittest.TestCase):
    def test_L6_statements(self):
        for where, node in nodes_of(ast.stmt):
            self.assertIsInstance(node, STATEMENTS, f"L6 {where}")
        for where, node in nodes_of((ast.While, ast.For)):
            self.assertEqual(node.orelse, [], f"L6 {where}")
        for where, node in nodes_of(ast.Assign):
            self.assertEqual(len(node.targets), 1, f"L6 {where}")
            self.assertNotIsInstance(node.targets[0], (ast.Tuple, ast.List), f"L6 {where}")
        for where, node in nodes_of(ast.Try):
            self.assertEqual(node.finalbody, [], f"L6 {where}")
        for where, node in nodes_of(ast.Expr):
            self.assertIsInstance(node.value, (ast.Call, ast.Constant), f"L6 {where}")

    def test_L4_L5_L21_functions_and_classes(self):
        for where, node in nodes_of(ast.FunctionDef):
            given = node.args
            self.assertEqual((given.vararg, given.kwarg, given.kwonlyargs, given.posonlyargs), (None, None, [], []), where)
            self.assertEqual(node.decorator_list, [], f"L4 {where}")
            self.assertIsNone(node.returns, f"L21 {where}")
        for where, node in nodes_of(ast.arg):
            self.assertIsNone(node.annotation, f"L21 {where}")
        for where, node in nodes_of(ast.ClassDef):
            self.assertEqual(node.decorator_list, [], f"L5 {where}")
            self.assertLessEqual(len(node.bases), 1, f"L5 {where}")
            for one in node.body:
                is_doc = isinstance(one, ast.Expr) and isinstance(one.value, ast.Constant)
                self.assertTrue(is_doc or isinstance(one, ast.FunctionDef), f"L5 {where}")

    def test_L7_expressions(self):
        for where, node in nodes_of(NOT_USED):
            self.fail(f"L7 {where}")
        for where, node in nodes_of(ast.Constant):
            self.assertTrue(node.value is None or isinstance(node.value, (int, str)), f"L7 {where}")
        for where, node in nodes_of(ast.ListComp):
            self.assertEqual(len(node.generators), 1, f"L7 {where}")
            self.assertLessEqual(len(node.generators[0].ifs), 1, f"L7 {where}")
        for where, node in nodes_of(ast.FormattedValue):
            self.assertIsInstance(node.value, ast.Name, f"L7 {where}")
            self.assertIsNone(node.format_spec, f"L7 {where}")

    def test_L8_L15_L17_names(self):
        known = {name: set(top_names(name) + imported_names(name)) for name in TREES}
        for where, node in nodes_of(ast.Name):
            if node.id in dir(builtins) and node.id not in known[where.split(":")[0]]:
                self.assertIn(node.id, OWN_OF_PYTHON, f"L8 {where}")
        for where, name in bound_names():
            self.assertNotIn(name, dir(builtins), f"L8, L15 {where}")
            self.assertNotIn(name, NOWHERE, f"L17 {where}")
            self.assertTrue(name == "__init__" or re.match("^[A-Za-z][A-Za-z0-9_]*$", name), f"L12 {where}")

    def test_L15_locals(self):
        for name, tree in TREES.items():
            taken = imported_names(name) + [node.name for node in tree.body if isinstance(node, ast.ClassDef)]
            for node in tree.body:
                if isinstance(node, ast.Assign):
                    continue
                for inner in ast.walk(node):
                    if isinstance(inner, ast.arg):
                        self.assertNotIn(inner.arg, taken, f"L15 {name}:{inner.lineno}")
                    if isinstance(inner, ast.Name) and isinstance(inner.ctx, ast.Store):
                        self.assertNotIn(inner.id, taken + top_names(name), f"L15 {name}:{inner.lineno}")

    def test_L20_is(self):
        for where, node in nodes_of(ast.Compare):
            if any(isinstance(one, (ast.Is, ast.IsNot)) for one in node.ops):
                self.assertIsInstance(node.comparators[0], ast.Constant, f"L20 {where}")

    def test_L25_L26_methods_and_values(self):
        methods = set()
        values = set()
        for where, node in nodes_of(ast.ClassDef):
            methods |= {one.name for one in node.body if isinstance(one, ast.FunctionDef)}
        for where, node in nodes_of(ast.Attribute):
            self.assertNotIn(node.attr, NOWHERE, f"L17 {where}")
            if isinstance(node.ctx, ast.Store):
                values.add(node.attr)
                self.assertNotIn(node.attr, NOT_AS_VALUES, f"L26 {where}")
        self.assertEqual(methods & values, set(), "L18")
        pythons = {one for kind in (str, int, list, dict, set, tuple, bytes) for one in dir(kind)}
        for value in values:
            self.assertTrue(value not in pythons or value in MAY_BE_VALUES, f"L26 {value}")
        for where, node in nodes_of(ast.Call):
            if isinstance(node.func, ast.Attribute):
                self.assertTrue(node.func.attr in METHODS or node.func.attr in methods, f"L25 {where}")

    def test_L22_keywords(self):
        for where, node in nodes_of(ast.Call):
            self.assertEqual(node.keywords, [], f"L22 {where}")

    def test_L23_walked_at_once(self):
        for name, tree in TREES.items():
            walked = set()
            for node in ast.walk(tree):
                if isinstance(node, (ast.For, ast.comprehension)):
                    walked.add(node.iter)
                if isinstance(node, ast.Call) and called(node) in WALKING:
                    walked |= set(node.args[:1])
            for node in ast.walk(tree):
                if isinstance(node, ast.Call) and called(node) in TO_BE_WALKED:
                    self.assertIn(node, walked, f"L23 {name}:{node.lineno}")

    def test_L24_sets(self):
        for name, tree in TREES.items():
            inside = {one for node in ast.walk(tree) if isinstance(node, ast.Call) and called(node) in ("sorted", "len")
                      for one in node.args}
            for node in ast.walk(tree):
                if isinstance(node, ast.Call) and called(node) in ("set", "frozenset"):
                    self.assertIn(node, inside, f"L24 {name}:{node.lineno}")

    def test_L27_texts(self):
        for where, node in nodes_of(ast.Constant):
            if isinstance(node.value, str):
                self.assertNotIn("%", node.value, f"L27 {where}")
        for where, node in nodes_of(ast.Pow):
            self.fail("L27")


if __name__ == "__main__":
    unittest.main()
