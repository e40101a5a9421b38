"""The form of the package's files: what can be seen of ../shared/LANGUAGE.md without running them."""

import ast
import builtins
import pathlib
import re
import unittest

PACKAGE = pathlib.Path(__file__).resolve().parent.parent / "glowcells"

STATEMENTS = (
    ast.FunctionDef, ast.ClassDef, ast.ImportFrom, ast.Assign, ast.AugAssign, ast.If, ast.While, ast.For,
    ast.Return, ast.Break, ast.Continue, ast.Pass, ast.Raise, ast.Try, ast.Expr,
)
EXPRESSIONS = (
    ast.Constant, ast.List, ast.Tuple, ast.Dict, ast.Set, ast.BinOp, ast.UnaryOp, ast.BoolOp, ast.Compare,
    ast.IfExp, ast.Call, ast.Attribute, ast.Subscript, ast.Slice, ast.ListComp, ast.JoinedStr,
    ast.FormattedValue, ast.Name, ast.Lambda,
)
OWN_NAMES = """
    len range enumerate zip min max sum abs sorted reversed int str bool list tuple dict set frozenset isinstance
    ord repr any all divmod Exception ValueError TypeError KeyError IndexError LookupError ZeroDivisionError
    ArithmeticError OverflowError RuntimeError NotImplementedError AttributeError StopIteration
""".split()
OWN_METHODS = """
    append clear copy count endswith extend find get index insert isalnum isalpha isdigit islower isspace isupper
    items join keys ljust lower lstrip partition pop remove replace reverse rfind rjust rpartition rsplit rstrip
    setdefault split splitlines startswith strip update upper values zfill bit_length
""".split()
TWO_UNDERSCORES = "__init__ __eq__ __repr__ __str__ __len__".split()
NO_NAMES = "register mro elements open input version_info with_traceback add_note format format_map".split()
NOT_AS_NAMES = """
    attrgetter breakpoint builtins compile copyright credits delattr dir eval exec exit gc getattr globals hasattr help
    id importlib license locals methodcaller os quit setattr super type vars sys __name__
""".split()
WALKED_AT_ONCE = "zip enumerate reversed range items keys values".split()
WALKERS = "list tuple dict sorted sum any all enumerate zip min max join".split()
OWN_KINDS = (str, int, list, dict, set, bytes, tuple)
MORE_METHODS = ["add", "discard"]
MORE_VALUES = "count index title find get join lower upper split strip copy add".split()
NO_WORDS = re.compile(
    r"\b(type|typing|typing_extensions|enum|Enum|IntEnum|StrEnum|Flag|IntFlag|Generic|Protocol|ABC|ABCMeta"
    r"|namedtuple|NamedTuple|TypedDict|TYPE_CHECKING|abstractmethod)\b|dataclass|overload|contextmanager"
)


def files():
    return sorted(PACKAGE.rglob("*.py"))


def trees():
    return {file.name: ast.parse(file.read_text("ascii")) for file in files()}


def nodes(tree, *kinds):
    return [node for node in ast.walk(tree) if isinstance(node, kinds)]


def bound_at_top(tree):
    names = [node.name for node in tree.body if isinstance(node, (ast.FunctionDef, ast.ClassDef))]
    for node in tree.body:
        if isinstance(node, ast.Assign):
            names.append(node.targets[0].id)
    return names


def bound_anywhere(tree):
    names = [node.id for node in nodes(tree, ast.Name) if not isinstance(node.ctx, ast.Load)]
    names += [node.arg for node in nodes(tree, ast.arg)]
    names += [node.name for node in nodes(tree, ast.FunctionDef, ast.ClassDef)]
    names += [node.name for node in nodes(tree, ast.ExceptHandler) if node.name]
    for node in nodes(tree, ast.ImportFrom):
        names += [alias.asname or alias.name for alias in node.names]
    return names


def imported(tree):
    return [alias.asname or alias.name for node in nodes(tree, ast.ImportFrom) for alias in node.names]


def called(node):
    if isinstance(node, ast.Call):
        return node.func.id if isinstance(node.func, ast.Name) else getattr(node.func, "attr", "")
    return ""


def method_names(tree):
    return [
        part.name for node in nodes(tree, ast.ClassDef) for part in node.body if isinstance(part, ast.FunctionDef)
    ]


class TestFiles(unittest.TestCase):
    def test_nothing_but_plain_files_lies_in_the_package(self):
        for path in PACKAGE.rglob("*"):
            if "__pycache__" not in path.parts:
                self.assertRegex(path.name, r"^(__init__|__main__|[a-z][a-z0-9_]*)\.py$")
        self.assertTrue((PACKAGE / "__init__.py").is_file())

    def test_signs_and_sizes(self):
        for file in files():
            text = file.read_bytes().decode("utf-8")
            self.assertRegex(text, r"\A[ -~\n]*\Z", file.name)
            lines = text.split("\n")
            self.assertLessEqual(len(lines), 400, file.name)
            self.assertLessEqual(max(len(line) for line in lines), 120, file.name)

    def test_words_that_stand_nowhere(self):
        for file in files():
            self.assertIsNone(NO_WORDS.search(file.read_text("ascii")), file.name)

    def test_functions_are_small(self):
        for name, tree in trees().items():
            for node in nodes(tree, ast.FunctionDef):
                self.assertLessEqual(node.end_lineno - node.lineno + 1, 40, (name, node.name))


class TestParts(unittest.TestCase):
    def test_statements_and_expressions(self):
        for name, tree in trees().items():
            for node in nodes(tree, ast.stmt):
                self.assertIsInstance(node, STATEMENTS, (name, node.lineno))
            for node in nodes(tree, ast.expr):
                self.assertIsInstance(node, EXPRESSIONS, (name, node.lineno))
            for node in nodes(tree, ast.Div, ast.MatMult, ast.Starred):
                self.fail((name, ast.dump(node)))
            for node in nodes(tree, ast.Constant):
                self.assertIsInstance(node.value, (int, str, type(None)), (name, node.lineno))

    def test_statements_in_their_narrower_form(self):
        for name, tree in trees().items():
            for node in nodes(tree, ast.For, ast.While):
                self.assertEqual(node.orelse, [], (name, node.lineno))
            for node in nodes(tree, ast.Try):
                self.assertEqual(node.finalbody, [], (name, node.lineno))
            for node in nodes(tree, ast.Assign):
                self.assertEqual(len(node.targets), 1, (name, node.lineno))
            for node in nodes(tree, ast.Expr):
                if node is not tree.body[0]:
                    self.assertIsInstance(node.value, ast.Call, (name, node.lineno))
            for node in nodes(tree, ast.comprehension):
                self.assertLessEqual(len(node.ifs), 1, name)
            for node in nodes(tree, ast.ListComp):
                self.assertEqual(len(node.generators), 1, (name, node.lineno))
            for node in nodes(tree, ast.Compare):
                if any(isinstance(sign, (ast.Is, ast.IsNot)) for sign in node.ops):
                    self.assertIsInstance(node.comparators[0], ast.Constant, (name, node.lineno))
                    self.assertIn(node.comparators[0].value, (None, True, False), (name, node.lineno))

    def test_functions_and_classes_in_their_narrower_form(self):
        for name, tree in trees().items():
            for node in nodes(tree, ast.FunctionDef):
                self.assertEqual(node.decorator_list, [], (name, node.name))
                parts = node.args
                self.assertFalse(parts.vararg or parts.kwarg or parts.kwonlyargs or parts.posonlyargs, (name, node.name))
            for node in nodes(tree, ast.ClassDef):
                self.assertIn(node, tree.body, (name, node.name))
                self.assertEqual((node.decorator_list, node.keywords), ([], []), (name, node.name))
                self.assertLessEqual(len(node.bases), 1, (name, node.name))
                for part in node.body:
                    self.assertIsInstance(part, (ast.FunctionDef, ast.Pass), (name, node.name))


class TestWalks(unittest.TestCase):
    def test_what_is_walked_at_once_is_not_kept(self):
        for name, tree in trees().items():
            walked = [node.iter for node in nodes(tree, ast.For, ast.comprehension)]
            for node in nodes(tree, ast.Call):
                if called(node) in WALKERS:
                    walked += node.args if called(node) == "zip" else node.args[:1]
            for node in nodes(tree, ast.Call):
                if called(node) in WALKED_AT_ONCE:
                    self.assertIn(node, walked, (name, node.lineno))

    def test_sets_are_asked_on_the_spot(self):
        for name, tree in trees().items():
            asked = [node.args[0] for node in nodes(tree, ast.Call) if called(node) in ("sorted", "len")]
            for node in nodes(tree, ast.Compare):
                asked += [node.left] + node.comparators
            for node in nodes(tree, ast.Call):
                if called(node) in ("set", "frozenset"):
                    self.assertIn(node, asked, (name, node.lineno))


class TestNames(unittest.TestCase):
    def test_imports_are_the_package_s_own_and_from_where_a_name_is_defined(self):
        parsed = trees()
        for name, tree in parsed.items():
            for node in nodes(tree, ast.ImportFrom):
                self.assertIn(node, tree.body, (name, node.lineno))
                self.assertEqual(node.level, 0, (name, node.lineno))
                package, point, module = node.module.partition(".")
                self.assertEqual(package, "glowcells", (name, node.lineno))
                for alias in node.names:
                    self.assertIn(alias.name, bound_at_top(parsed[module + ".py"]), (name, node.lineno))

    def test_names_are_plain_and_bound_once_at_the_top(self):
        for name, tree in trees().items():
            tops = bound_at_top(tree)
            self.assertEqual(len(tops), len(set(tops)), name)
            for word in bound_anywhere(tree):
                if word not in TWO_UNDERSCORES:
                    self.assertRegex(word, r"^[A-Za-z][A-Za-z0-9_]*$", name)
                self.assertNotIn(word, OWN_NAMES + NO_NAMES, name)

    def test_no_local_is_called_like_a_class_an_import_or_a_name_of_python_s_own(self):
        for name, tree in trees().items():
            classes = [node.name for node in nodes(tree, ast.ClassDef)]
            taken = classes + imported(tree) + dir(builtins)
            local = [node.arg for node in nodes(tree, ast.arg)]
            local += [node.id for node in nodes(tree, ast.Name) if not isinstance(node.ctx, ast.Load)]
            local += [node.name for node in nodes(tree, ast.ExceptHandler) if node.name]
            self.assertEqual([word for word in local if word in taken], [], name)

    def test_no_two_files_draw_from_one_another(self):
        drawn = {}
        for name, tree in trees().items():
            drawn[name] = [node.module.partition(".")[2] + ".py" for node in nodes(tree, ast.ImportFrom)]
        done = []
        while len(done) < len(drawn):
            free = [name for name in drawn if name not in done and all(other in done for other in drawn[name])]
            self.assertNotEqual(free, [], done)
            done += free

    def test_names_that_are_not_used(self):
        for name, tree in trees().items():
            for node in nodes(tree, ast.Name):
                self.assertNotIn(node.id, NOT_AS_NAMES + NO_NAMES, (name, node.lineno))

    def test_own_methods_and_values_are_free_names(self):
        of_python = [word for kind in OWN_KINDS for word in dir(kind)]
        for name, tree in trees().items():
            for word in method_names(tree):
                if word not in TWO_UNDERSCORES + OWN_METHODS + MORE_METHODS:
                    self.assertNotIn(word, of_python, name)
            for node in nodes(tree, ast.Attribute):
                if isinstance(node.ctx, ast.Store) and node.attr not in MORE_VALUES:
                    self.assertNotIn(node.attr, of_python + ["args"], (name, node.lineno))

    def test_of_python_s_own_names_only_the_listed_ones(self):
        for name, tree in trees().items():
            known = bound_anywhere(tree) + OWN_NAMES
            for node in nodes(tree, ast.Name):
                self.assertIn(node.id, known, (name, node.lineno))

    def test_of_python_s_own_methods_only_the_listed_ones(self):
        parsed = trees()
        methods = [word for tree in parsed.values() for word in method_names(tree)]
        for name, tree in parsed.items():
            for node in nodes(tree, ast.Call):
                if isinstance(node.func, ast.Attribute):
                    self.assertIn(node.func.attr, methods + OWN_METHODS, (name, node.lineno))

    def test_no_name_is_a_method_here_and_a_value_there(self):
        parsed = trees()
        methods = [word for tree in parsed.values() for word in method_names(tree)]
        for name, tree in parsed.items():
            for node in nodes(tree, ast.Attribute):
                self.assertNotIn(node.attr, NO_NAMES, (name, node.lineno))
                if isinstance(node.ctx, ast.Store):
                    self.assertNotIn(node.attr, methods, (name, node.lineno))


if __name__ == "__main__":
    unittest.main()
