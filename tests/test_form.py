"""The form of the package's files: what can be seen of ../shared/LANGUAGE.md without running them."""

import ast
import pathlib
import re
import unittest

PACKAGE = pathlib.Path(__file__).resolve().parent.parent / "glowcells"

STATEMENTS = (
    ast.FunctionDef, ast.ClassDef, ast.ImportFrom, ast.Assign, ast.AugAssign, ast.If, ast.While, ast.For,
    ast.Return, ast.Break, ast.Continue, ast.Pass, ast.Raise, ast.Try, ast.Expr,
)
EXPRESSIONS = (
    ast.Constant, ast.List, ast.Tuple, ast.Dict, ast.Set, ast.BinOp, ast.UnaryOp, ast.BoolOp, ast.Compare,
    ast.IfExp, ast.Call, ast.Attribute, ast.Subscript, ast.Slice, ast.ListComp, ast.JoinedStr,
    ast.FormattedValue, ast.Name, ast.Lambda,
)
OWN_NAMES = """
    len range enumerate zip min max sum abs sorted reversed int str bool list tuple dict set frozenset isinstance
    ord repr any all divmod Exception ValueError TypeError KeyError IndexError LookupError ZeroDivisionError
    ArithmeticError OverflowError RuntimeError NotImplementedError AttributeError StopIteration
""".split()
OWN_METHODS = """
    append clear copy count endswith extend find get index insert isalnum isalpha isdigit islower isspace isupper
    items join keys ljust lower lstrip partition pop remove replace reverse rfind rjust rpartition rsplit rstrip
    setdefault split splitlines startswith strip update upper values zfill bit_length
""".split()
TWO_UNDERSCORES = "__init__ __eq__ __repr__ __str__ __len__".split()
NO_NAMES = "register mro elements open input version_info with_traceback add_note format format_map".split()
NO_WORDS = re.compile(
    r"\b(type|typing|typing_extensions|enum|Enum|IntEnum|StrEnum|Flag|IntFlag|Generic|Protocol|ABC|ABCMeta"
    r"|namedtuple|NamedTuple|TypedDict|TYPE_CHECKING|abstractmethod)\b|dataclass|overload|contextmanager"
)


def files():
    return sorted(PACKAGE.rglob("*.py"))


def trees():
    return {file.name: ast.parse(file.read_text("ascii")) for file in files()}


def nodes(tree, *kinds):
    return [node for node in ast.walk(tree) if isinstance(node, kinds)]


def bound_at_top(tree):
    names = [node.name for node in tree.body if isinstance(node, (ast.FunctionDef, ast.ClassDef))]
    for node in tree.body:
        if isinstance(node, ast.Assign):
            names.append(node.targets[0].id)
    return names


def bound_anywhere(tree):
    names = [node.id for node in nodes(tree, ast.Name) if not isinstance(node.ctx, ast.Load)]
    names += [node.arg for node in nodes(tree, ast.arg)]
    names += [node.name for node in nodes(tree, ast.FunctionDef, ast.ClassDef)]
    names += [node.name for node in nodes(tree, ast.ExceptHandler) if node.name]
    for node in nodes(tree, ast.ImportFrom):
        names += [alias.asname or alias.name for alias in node.names]
    return names


def method_names(tree):
    return [
        part.name for node in nodes(tree, ast.ClassDef) for part in node.body if isinstance(part, ast.FunctionDef)
    ]


class TestFiles(unittest.TestCase):
    def test_nothing_but_plain_files_lies_in_the_package(self):
        for path in PACKAGE.rglob("*"):
            if "__pycache__" not in path.parts:
                self.assertRegex(path.name, r"^(__init__|__main__|[a-z][a-z0-9_]*)\.py$")
        self.assertTrue((PACKAGE / "__init__.py").is_file())

    def test_signs_and_sizes(self):
        for file in files():
            text = file.read_bytes().decode("utf-8")
            self.assertRegex(text, r"\A[ -~\n]*\Z", file.name)
            lines = text.split("\n")
            self.assertLessEqual(len(lines), 400, file.name)
            self.assertLessEqual(max(len(line) for line in lines), 120, file.name)

    def test_words_that_stand_nowhere(self):
        for file in files():
            self.assertIsNone(NO_WORDS.search(file.read_text("ascii")), file.name)

    def test_functions_are_small(self):
        for name, tree in trees().items():
            for node in nodes(tree, ast.FunctionDef):
                self.assertLessEqual(node.end_lineno - node.lineno + 1, 40, (name, node.name))


class TestParts(unittest.TestCase):
    def test_statements_and_expressions(self):
        for name, tree in trees().items():
            for node in nodes(tree, ast.stmt):
                self.assertIsInstance(node, STATEMENTS, (name, node.lineno))
            for node in nodes(tree, ast.expr):
                self.assertIsInstance(node, EXPRESSIONS, (name, node.lineno))
            for node in nodes(tree, ast.Div, ast.MatMult, ast.Starred):
                self.fail((name, ast.dump(node)))
            for node in nodes(tree, ast.Constant):
                self.assertIsInstance(node.value, (int, str, type(None)), (name, node.lineno))

    def test_statements_in_their_narrower_form(self):
        for name, tree in trees().items():
            for node in nodes(tree, ast.For, ast.While):
                self.assertEqual(node.orelse, [], (name, node.lineno))
            for node in nodes(tree, ast.Try):
                self.assertEqual(node.finalbody, [], (name, node.lineno))
            for node in nodes(tree, ast.Assign):
                self.assertEqual(len(node.targets), 1, (name, node.lineno))
            for node in nodes(tree, ast.Expr):
                if node is not tree.body[0]:
                    self.assertIsInstance(node.value, ast.Call, (name, node.lineno))
            for node in nodes(tree, ast.comprehension):
                self.assertLessEqual(len(node.ifs), 1, name)
            for node in nodes(tree, ast.ListComp):
                self.assertEqual(len(node.generators), 1, (name, node.lineno))
            for node in nodes(tree, ast.Compare):
                if any(isinstance(sign, (ast.Is, ast.IsNot)) for sign in node.ops):
                    self.assertIsInstance(node.comparators[0], ast.Constant, (name, node.lineno))
                    self.assertIn(node.comparators[0].value, (None, True, False), (name, node.lineno))

    def test_functions_and_classes_in_their_narrower_form(self):
        for name, tree in trees().items():
            for node in nodes(tree, ast.FunctionDef):
                self.assertEqual(node.decorator_list, [], (name, node.name))
                parts = node.args
                self.assertFalse(parts.vararg or parts.kwarg or parts.kwonlyargs or parts.posonlyargs, (name, node.name))
            for node in nodes(tree, ast.ClassDef):
                self.assertIn(node, tree.body, (name, node.name))
                self.assertEqual((node.decorator_list, node.keywords), ([], []), (name, node.name))
                self.assertLessEqual(len(node.bases), 1, (name, node.name))
                for part in node.body:
                    self.assertIsInstance(part, (ast.FunctionDef, ast.Pass), (name, node.name))


class TestNames(unittest.TestCase):
    def test_imports_are_the_package_s_own_and_from_where_a_name_is_defined(self):
        parsed = trees()
        for name, tree in parsed.items():
            for node in nodes(tree, ast.ImportFrom):
                self.assertIn(node, tree.body, (name, node.lineno))
                self.assertEqual(node.level, 0, (name, node.lineno))
                package, point, module = node.module.partition(".")
                self.assertEqual(package, "glowcells", (name, node.lineno))
                for alias in node.names:
                    self.assertIn(alias.name, bound_at_top(parsed[module + ".py"]), (name, node.lineno))

    def test_names_are_plain_and_bound_once_at_the_top(self):
        for name, tree in trees().items():
            tops = bound_at_top(tree)
            self.assertEqual(len(tops), len(set(tops)), name)
            for word in bound_anywhere(tree):
                if word not in TWO_UNDERSCORES:
                    self.assertRegex(word, r"^[A-Za-z][A-Za-z0-9_]*$", name)
                self.assertNotIn(word, OWN_NAMES + NO_NAMES, name)

    def test_of_python_s_own_names_only_the_listed_ones(self):
        for name, tree in trees().items():
            known = bound_anywhere(tree) + OWN_NAMES
            for node in nodes(tree, ast.Name):
                self.assertIn(node.id, known, (name, node.lineno))

    def test_of_python_s_own_methods_only_the_listed_ones(self):
        parsed = trees()
        methods = [word for tree in parsed.values() for word in method_names(tree)]
        for name, tree in parsed.items():
            for node in nodes(tree, ast.Call):
                if isinstance(node.func, ast.Attribute):
                    self.assertIn(node.func.attr, methods + OWN_METHODS, (name, node.lineno))

    def test_no_name_is_a_method_here_and_a_value_there(self):
        parsed = trees()
        methods = [word for tree in parsed.values() for word in method_names(tree)]
        for name, tree in parsed.items():
            for node in nodes(tree, ast.Attribute):
                self.assertNotIn(node.attr, NO_NAMES, (name, node.lineno))
                if isinstance(node.ctx, ast.Store):
                    self.assertNotIn(node.attr, methods, (name, node.lineno))


if __name__ == "__main__":
    unittest.main()
