"""The package keeps to the part of Python that it may use, as far as that can be seen from its text."""

import ast
import builtins
import pathlib
import re
import unittest

PACKAGE = pathlib.Path(__file__).resolve().parent.parent / "packedframes"

STATEMENTS = (ast.FunctionDef, ast.ClassDef, ast.Assign, ast.AugAssign, ast.If, ast.While, ast.For, ast.Return,
              ast.Break, ast.Continue, ast.Pass, ast.Raise, ast.Try, ast.Expr, ast.ImportFrom)
EXPRESSIONS = (ast.Constant, ast.List, ast.Tuple, ast.Dict, ast.BinOp, ast.UnaryOp, ast.Compare, ast.BoolOp, ast.IfExp,
               ast.Call, ast.Attribute, ast.Subscript, ast.Slice, ast.ListComp, ast.Name, ast.JoinedStr,
               ast.FormattedValue)
OWN_NAMES = ("len range enumerate zip min max sum abs sorted reversed int str bool list tuple dict isinstance ord repr"
             " any all divmod ValueError KeyError ZeroDivisionError").split()
OWN_METHODS = ("append clear copy count endswith extend find get index insert isalnum isalpha isdigit islower isspace"
               " isupper items join keys ljust lower lstrip partition pop remove replace reverse rfind rjust rpartition"
               " rsplit rstrip setdefault split splitlines startswith strip update upper values zfill"
               " bit_length").split()
NAMES_NOT_USED = ("register mro elements open input version_info with_traceback add_note attrgetter breakpoint builtins"
                  " compile copyright credits delattr dir eval exec exit gc getattr globals hasattr help id importlib"
                  " license locals methodcaller os quit setattr super type vars sys").split()
WORDS_NOT_USED = ("type typing typing_extensions enum Enum IntEnum StrEnum Flag IntFlag Generic Protocol ABC ABCMeta"
                  " namedtuple NamedTuple TypedDict TYPE_CHECKING abstractmethod").split()
CHANGES = "append clear extend insert pop remove reverse setdefault update".split()
WALKED = "zip enumerate reversed range items keys values".split()


def trees():
    return {path: ast.parse(path.read_text()) for path in sorted(PACKAGE.glob("*.py"))}


def nodes(kind):
    return [(path.name, node) for path, tree in trees().items() for node in ast.walk(tree) if isinstance(node, kind)]


def bound_names(tree):
    """Names that a file's functions bind: parameters and locals."""
    found = [node.arg for node in ast.walk(tree) if isinstance(node, ast.arg)]
    for function in ast.walk(tree):
        if isinstance(function, ast.FunctionDef):
            found += [node.id for node in ast.walk(function)
                      if isinstance(node, ast.Name) and isinstance(node.ctx, ast.Store)]
    return found


def top_names(tree):
    found = []
    for node in tree.body:
        if isinstance(node, (ast.FunctionDef, ast.ClassDef)):
            found.append(node.name)
        if isinstance(node, ast.Assign):
            found.append(node.targets[0].id)
        if isinstance(node, ast.ImportFrom):
            found += [alias.name for alias in node.names]
    return found


class FilesTest(unittest.TestCase):
    def test_only_plain_files(self):
        for path in PACKAGE.iterdir():
            if path.name != "__pycache__":
                self.assertRegex(path.name, r"^([a-z][a-z0-9_]*|__init__)\.py$")
                self.assertNotIn(path.stem, dir(builtins) + NAMES_NOT_USED + WORDS_NOT_USED)

    def test_signs_and_sizes(self):
        for path in trees():
            text = path.read_text()
            self.assertRegex(text, r"\A[ -~\n]*\Z")
            self.assertLessEqual(len(text.splitlines()), 400, path)
            self.assertLessEqual(max(len(line) for line in text.splitlines()), 120, path)
        for name, node in nodes(ast.FunctionDef):
            self.assertLessEqual(node.end_lineno - node.lineno + 1, 40, (name, node.name))

    def test_words_not_used(self):
        for path in trees():
            words = re.findall(r"\w+", path.read_text())
            self.assertEqual([word for word in words if word in WORDS_NOT_USED], [], path)
            self.assertIsNone(re.search("dataclass|overload|contextmanager", path.read_text()))


class ModulesTest(unittest.TestCase):
    def test_top_of_a_module(self):
        for path, tree in trees().items():
            for node in tree.body:
                if isinstance(node, ast.Expr):
                    self.assertIsInstance(node.value.value, str)
                else:
                    self.assertIsInstance(node, (ast.ImportFrom, ast.FunctionDef, ast.ClassDef, ast.Assign), path)
            self.assertEqual(len(top_names(tree)), len(set(top_names(tree))), path)

    def test_imports_are_from_the_file_that_defines_the_name(self):
        defined = {path.stem: [node.name for node in tree.body if isinstance(node, (ast.FunctionDef, ast.ClassDef))]
                   + [node.targets[0].id for node in tree.body if isinstance(node, ast.Assign)]
                   for path, tree in trees().items()}
        for name, node in nodes((ast.Import, ast.ImportFrom)):
            self.assertIsInstance(node, ast.ImportFrom)
            self.assertEqual((node.level, node.module.split(".")[0], node.col_offset), (0, "packedframes", 0))
            for alias in node.names:
                self.assertIn(alias.name, defined[node.module.split(".")[1]])
                self.assertIsNone(alias.asname)

    def test_no_two_files_draw_from_one_another(self):
        drawn = {}
        for name, node in nodes(ast.ImportFrom):
            drawn.setdefault(name[:-3], set()).add(node.module.split(".")[1])
        left = {name: set(others) for name, others in drawn.items()}
        while left:
            free = [name for name, others in left.items() if not others & set(left)]
            self.assertNotEqual(free, [], left)
            left = {name: others for name, others in left.items() if name not in free}

    def test_lists_and_dicts_of_the_top_are_only_read(self):
        for path, tree in trees().items():
            kept = [node.targets[0].id for node in tree.body
                    if isinstance(node, ast.Assign) and isinstance(node.value, (ast.List, ast.Dict))]
            allowed = [id(node.value) for node in ast.walk(tree) if isinstance(node, ast.Subscript)
                       and isinstance(node.ctx, ast.Load)]
            allowed += [id(node.comparators[0]) for node in ast.walk(tree) if isinstance(node, ast.Compare)]
            for node in ast.walk(tree):
                if isinstance(node, ast.Name) and node.id in kept and isinstance(node.ctx, ast.Load):
                    self.assertIn(id(node), allowed, (path.name, node.lineno))


class SyntaxTest(unittest.TestCase):
    def test_statements_and_expressions(self):
        for name, node in nodes((ast.stmt, ast.expr)):
            self.assertIsInstance(node, STATEMENTS + EXPRESSIONS, (name, node.lineno))
        for name, node in nodes((ast.Global, ast.Nonlocal, ast.Delete, ast.Assert, ast.Starred, ast.Div)):
            self.fail((name, node))

    def test_loops_and_assignments(self):
        for name, node in nodes((ast.For, ast.While)):
            self.assertEqual(node.orelse, [], (name, node.lineno))
        for name, node in nodes(ast.Assign):
            self.assertEqual(len(node.targets), 1)
            self.assertNotIsInstance(node.targets[0], (ast.Tuple, ast.List), (name, node.lineno))
        for name, node in nodes(ast.ListComp):
            self.assertEqual(len(node.generators), 1)
            self.assertLessEqual(len(node.generators[0].ifs), 1)

    def test_constants(self):
        for name, node in nodes(ast.Constant):
            self.assertIn(type(node.value), (int, str, bool, type(None)), (name, node.lineno))
            if isinstance(node.value, str):
                self.assertNotIn("%", node.value)
        for name, node in nodes(ast.BinOp):
            if isinstance(node.op, ast.Pow):
                self.assertIsInstance(node.right, ast.Constant)

    def test_is_stands_beside_none(self):
        for name, node in nodes(ast.Compare):
            if any(isinstance(op, (ast.Is, ast.IsNot)) for op in node.ops):
                self.assertIn(getattr(node.comparators[0], "value", 0), (None, True, False), (name, node.lineno))

    def test_functions(self):
        for name, node in nodes(ast.FunctionDef):
            self.assertEqual(node.decorator_list, [])
            self.assertIsNone(node.returns)
            plain = node.args
            self.assertEqual((plain.vararg, plain.kwarg, plain.kwonlyargs, plain.posonlyargs), (None, None, [], []))
            self.assertEqual([arg.annotation for arg in plain.args if arg.annotation], [])

    def test_classes(self):
        for name, node in nodes(ast.ClassDef):
            self.assertEqual((node.decorator_list, node.keywords, node.bases), ([], [], []))
            for part in node.body:
                self.assertIsInstance(part, (ast.FunctionDef, ast.Expr), (name, node.name))


class NamesTest(unittest.TestCase):
    def test_plain_names(self):
        for path, tree in trees().items():
            methods = [node.name for node in ast.walk(tree) if isinstance(node, ast.FunctionDef)]
            names = bound_names(tree) + top_names(tree) + [name for name in methods if name != "__init__"]
            for name in names:
                self.assertRegex(name, r"^[A-Za-z][A-Za-z0-9_]*$")
                self.assertNotIn(name, NAMES_NOT_USED)
                self.assertNotIn(name, dir(builtins), path)
            classes = [node.name for node in tree.body if isinstance(node, ast.ClassDef)]
            imports = [alias.name for node in tree.body if isinstance(node, ast.ImportFrom) for alias in node.names]
            self.assertEqual(set(bound_names(tree)) & set(classes + imports), set(), path)

    def test_pythons_own_names(self):
        for path, tree in trees().items():
            known = set(bound_names(tree) + top_names(tree) + OWN_NAMES)
            for node in ast.walk(tree):
                if isinstance(node, ast.Name):
                    self.assertIn(node.id, known, (path.name, node.lineno))

    def test_methods(self):
        own = [part.name for name, node in nodes(ast.ClassDef) for part in node.body
               if isinstance(part, ast.FunctionDef)]
        stored = [node.attr for name, node in nodes(ast.Attribute) if isinstance(node.ctx, ast.Store)]
        self.assertEqual(set(own) & set(stored), set())
        pythons = {name for kind in (str, int, list, dict, set, bytes, tuple) for name in dir(kind)}
        self.assertEqual((set(own) | set(stored)) & pythons, {"__init__"})
        called = [node.func.attr for name, node in nodes(ast.Call) if isinstance(node.func, ast.Attribute)]
        self.assertEqual(set(called) - set(own) - set(OWN_METHODS), set())
        for name, node in nodes(ast.Attribute):
            self.assertIn(node.attr, own + stored + OWN_METHODS)

    def test_keywords(self):
        for name, node in nodes(ast.Call):
            self.assertEqual(node.keywords, [], (name, node.lineno))


class WalksTest(unittest.TestCase):
    def called(self, node):
        if not isinstance(node, ast.Call):
            return ""
        return node.func.id if isinstance(node.func, ast.Name) else getattr(node.func, "attr", "")

    def test_walked_at_once(self):
        spots = [(name, node.iter) for name, node in nodes((ast.For, ast.comprehension))]
        spots += [(name, node.args[0]) for name, node in nodes(ast.Call)
                  if self.called(node) in ("list", "tuple", "dict", "sorted", "sum", "any", "all") and node.args]
        places = [(name, spot.lineno, spot.col_offset) for name, spot in spots]
        for name, node in nodes(ast.Call):
            if self.called(node) in WALKED:
                self.assertIn((name, node.lineno, node.col_offset), places)

    def test_what_a_loop_walks_is_not_changed_in_it(self):
        for name, loop in nodes(ast.For):
            walked = {ast.unparse(part) for part in ast.walk(loop.iter) if isinstance(part, (ast.Name, ast.Attribute))}
            for node in ast.walk(loop):
                if isinstance(node, ast.Call) and self.called(node) in CHANGES and isinstance(node.func, ast.Attribute):
                    self.assertNotIn(ast.unparse(node.func.value), walked, (name, node.lineno))
                if isinstance(node, ast.Subscript) and isinstance(node.ctx, ast.Store):
                    self.assertNotIn(ast.unparse(node.value), walked, (name, node.lineno))


if __name__ == "__main__":
    unittest.main()
