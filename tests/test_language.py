"""The package's files against the rules of LANGUAGE.md that can be read off their syntax."""

import ast
import builtins
import pathlib
import re
import unittest

PACKAGE = pathlib.Path(__file__).resolve().parent.parent / "lonewalks"

STATEMENTS = (
    ast.Assign, ast.AugAssign, ast.If, ast.While, ast.For, ast.Return, ast.Break, ast.Continue, ast.Pass, ast.Raise,
    ast.Try, ast.Expr, ast.FunctionDef, ast.ClassDef, ast.ImportFrom,
)
EXPRESSIONS = (
    ast.Constant, ast.Name, ast.List, ast.Tuple, ast.Dict, ast.Set, ast.BinOp, ast.UnaryOp, ast.BoolOp, ast.Compare,
    ast.IfExp, ast.Call, ast.Attribute, ast.Subscript, ast.Slice, ast.ListComp, ast.JoinedStr, ast.FormattedValue,
    ast.Lambda,
)
OWN_NAMES = set(
    "len range enumerate zip min max sum abs sorted reversed int str bool list tuple dict set frozenset isinstance ord "
    "repr any all divmod Exception ValueError TypeError KeyError IndexError LookupError ZeroDivisionError "
    "ArithmeticError OverflowError RuntimeError NotImplementedError AttributeError StopIteration".split()
)
OWN_METHODS = set(
    "append clear copy count endswith extend find get index insert isalnum isalpha isdigit islower isspace isupper "
    "items join keys ljust lower lstrip partition pop remove replace reverse rfind rjust rpartition rsplit rstrip "
    "setdefault split splitlines startswith strip update upper values zfill bit_length __init__".split()
)
PYTHON_METHODS = set().union(*[dir(kind) for kind in (str, int, list, tuple, dict, set, frozenset, bytes)])
WORDS_NOWHERE = re.compile(
    r"\b(type|typing|typing_extensions|enum|Enum|IntEnum|StrEnum|Flag|IntFlag|Generic|Protocol|ABC|ABCMeta|namedtuple"
    r"|NamedTuple|TypedDict|TYPE_CHECKING|abstractmethod)\b|dataclass|overload|contextmanager"
)
SPECIAL = ("__init__", "__eq__", "__repr__", "__str__", "__len__")


def sources():
    for path in sorted(PACKAGE.glob("*.py")):
        yield path.name, path.read_text(encoding="utf-8")


def trees():
    for name, text in sources():
        yield name, ast.parse(text)


def nodes(*kinds):
    for name, tree in trees():
        for node in ast.walk(tree):
            if isinstance(node, kinds):
                yield f"{name}:{getattr(node, 'lineno', 0)}", node


def bound_names():
    for where, node in nodes(ast.Name, ast.arg, ast.FunctionDef, ast.ClassDef):
        if isinstance(node, ast.arg):
            yield where, node.arg
        elif not isinstance(node, ast.Name):
            yield where, node.name
        elif isinstance(node.ctx, ast.Store):
            yield where, node.id


class Files(unittest.TestCase):
    def test_the_package_holds_plain_files_alone(self):
        found = [path.name for path in PACKAGE.iterdir() if path.name != "__pycache__"]
        self.assertIn("__init__.py", found)
        for name in found:
            self.assertRegex(name, r"^(__init__|__main__|[a-z][a-z0-9_]*)\.py$")
            self.assertNotRegex(name, r"^test")

    def test_signs_sizes_and_words(self):
        for name, text in sources():
            with self.subTest(name):
                self.assertRegex(text, r"\A[ -~\n]*\Z")
                lines = text.splitlines()
                self.assertLessEqual(len(lines), 400)
                self.assertLessEqual(max(map(len, lines)), 120)
                self.assertIsNone(WORDS_NOWHERE.search(text))

    def test_functions_are_short(self):
        for where, node in nodes(ast.FunctionDef):
            self.assertLessEqual(node.end_lineno - node.lineno + 1, 40, where)


class Syntax(unittest.TestCase):
    def test_statements_and_expressions(self):
        for where, node in nodes(ast.stmt):
            self.assertIsInstance(node, STATEMENTS, where)
        for where, node in nodes(ast.expr):
            self.assertIsInstance(node, EXPRESSIONS, where)
        for where, node in nodes(ast.Constant):
            self.assertIn(type(node.value), (int, str, bool, type(None)), where)
        for where, node in nodes(ast.operator):
            self.assertNotIsInstance(node, (ast.Div, ast.MatMult), where)

    def test_statements_in_their_narrow_forms(self):
        for where, node in nodes(ast.Assign):
            self.assertEqual(len(node.targets), 1, where)
        for where, node in nodes(ast.For, ast.While):
            self.assertEqual(node.orelse, [], where)
        for where, node in nodes(ast.Try):
            self.assertEqual(node.finalbody, [], where)
        for where, node in nodes(ast.ListComp):
            self.assertEqual(len(node.generators), 1, where)
            self.assertLessEqual(len(node.generators[0].ifs), 1, where)
        for where, node in nodes(ast.Compare):
            if any(isinstance(sign, (ast.Is, ast.IsNot)) for sign in node.ops):
                self.assertIn(getattr(node.comparators[0], "value", 0), (None, True, False), where)

    def test_imports_are_the_package_s_own(self):
        modules = {name[:-3]: tree for name, tree in trees()}
        for where, node in nodes(ast.ImportFrom):
            self.assertEqual(node.level, 0, where)
            self.assertRegex(node.module, r"^lonewalks\.[a-z_]+$", where)
            defined = [getattr(part, "name", None) for part in modules[node.module.split(".")[1]].body]
            for alias in node.names:
                self.assertIn(alias.name, defined, where)

    def test_no_two_files_draw_from_one_another(self):
        drawn = {name: {node.module.split(".")[1] + ".py" for node in tree.body if isinstance(node, ast.ImportFrom)}
                 for name, tree in trees()}
        while drawn:
            # Each turn leaves out the files that draw from none that is left.
            loose = [name for name in drawn if not drawn[name] & set(drawn)]
            self.assertTrue(loose, drawn)
            for name in loose:
                del drawn[name]

    def test_the_top_of_each_file(self):
        for name, tree in trees():
            for part in tree.body[1:]:
                kinds = (ast.ImportFrom, ast.FunctionDef, ast.ClassDef, ast.Assign)
                self.assertIsInstance(part, kinds, f"{name}:{part.lineno}")

    def test_functions_and_classes_are_plain(self):
        for where, node in nodes(ast.arguments):
            self.assertEqual((node.vararg, node.kwarg, node.kwonlyargs, node.posonlyargs), (None, None, [], []), where)
        for where, node in nodes(ast.FunctionDef, ast.ClassDef):
            self.assertEqual(node.decorator_list, [], where)
        for where, node in nodes(ast.ClassDef):
            self.assertLessEqual(len(node.bases), 1, where)
            for part in node.body:
                self.assertIsInstance(part, (ast.FunctionDef, ast.Pass), where)


class Names(unittest.TestCase):
    def test_bound_names_are_plain_and_not_python_s_own(self):
        for where, name in bound_names():
            if name not in SPECIAL:
                self.assertRegex(name, r"^[A-Za-z][A-Za-z0-9_]*$", where)
                self.assertNotIn(name, dir(builtins), where)

    def test_no_local_is_called_like_a_class_or_an_import_of_its_file(self):
        for file_name, tree in trees():
            taken = {part.name for part in tree.body if isinstance(part, ast.ClassDef)}
            for part in tree.body:
                if isinstance(part, ast.ImportFrom):
                    taken.update(alias.name for alias in part.names)
            for node in ast.walk(tree):
                if isinstance(node, ast.arg):
                    self.assertNotIn(node.arg, taken, f"{file_name}:{node.lineno}")
                elif isinstance(node, ast.Name) and isinstance(node.ctx, ast.Store):
                    self.assertNotIn(node.id, taken, f"{file_name}:{node.lineno}")

    def test_of_python_s_own_names_only_the_listed_are_read(self):
        for where, node in nodes(ast.Name):
            if node.id in dir(builtins):
                self.assertIn(node.id, OWN_NAMES, where)

    def test_of_python_s_own_methods_only_the_listed_are_called(self):
        for where, node in nodes(ast.Attribute):
            if node.attr in PYTHON_METHODS:
                self.assertIn(node.attr, OWN_METHODS, where)

    def test_no_name_stands_twice_at_a_file_s_top(self):
        for file_name, tree in trees():
            found = []
            for part in tree.body:
                if isinstance(part, (ast.FunctionDef, ast.ClassDef)):
                    found.append(part.name)
                elif isinstance(part, ast.Assign):
                    found.append(part.targets[0].id)
                elif isinstance(part, ast.ImportFrom):
                    found.extend(alias.name for alias in part.names)
            self.assertEqual(len(found), len(set(found)), file_name)


if __name__ == "__main__":
    unittest.main()
