"""What can be seen from outside of the form of the package's files: those rules that a short look at the tree tells."""

import ast
import builtins
import pathlib
import re
import unittest

PACKAGE = pathlib.Path(__file__).resolve().parent.parent / "rightring"
FILES = sorted(path for path in PACKAGE.rglob("*") if path.is_file() and "__pycache__" not in path.parts)

STATEMENTS = (ast.FunctionDef, ast.ClassDef, ast.Assign, ast.AugAssign, ast.If, ast.While, ast.For, ast.Return,
              ast.Break, ast.Continue, ast.Pass, ast.Raise, ast.Try, ast.Expr, ast.ImportFrom)
EXPRESSIONS_OUT = (ast.SetComp, ast.DictComp, ast.GeneratorExp, ast.NamedExpr, ast.Starred, ast.Div, ast.Set,
                   ast.Await, ast.Yield, ast.YieldFrom)
OWN_NAMES = """len range enumerate zip min max sum abs sorted reversed int str bool list tuple dict set frozenset
isinstance ord repr any all divmod Exception ValueError TypeError KeyError IndexError LookupError ZeroDivisionError
ArithmeticError OverflowError RuntimeError NotImplementedError AttributeError StopIteration""".split()
METHODS = """append clear copy count endswith extend find get index insert isalnum isalpha isdigit islower isspace
isupper items join keys ljust lower lstrip partition pop remove replace reverse rfind rjust rpartition rsplit rstrip
setdefault split splitlines startswith strip update upper values zfill bit_length""".split()
WORDS_OUT = """type typing typing_extensions enum Enum IntEnum StrEnum Flag IntFlag Generic Protocol ABC ABCMeta
namedtuple NamedTuple TypedDict TYPE_CHECKING abstractmethod""".split()
NAMES_OUT = """register mro elements open input version_info with_traceback add_note""".split()


def trees():
    return [(path, ast.parse(path.read_text(encoding="utf-8"))) for path in FILES]


def nodes(kind):
    return [(path, node) for path, tree in trees() for node in ast.walk(tree) if isinstance(node, kind)]


class LanguageTest(unittest.TestCase):
    def test_files(self):
        self.assertEqual([path.name for path in FILES], ["__init__.py", "lanes.py", "states.py", "ways.py"])

    def test_size_and_signs(self):
        for path in FILES:
            text = path.read_text(encoding="utf-8")
            self.assertTrue(all(sign == "\n" or " " <= sign <= "~" for sign in text), path)
            self.assertLessEqual(len(text.splitlines()), 400, path)
            self.assertLessEqual(max(map(len, text.splitlines())), 120, path)
        for path, node in nodes(ast.FunctionDef):
            self.assertLessEqual(node.end_lineno - node.lineno + 1, 40, node.name)

    def test_imports(self):
        self.assertEqual(nodes(ast.Import), [])
        made = {path.stem: [getattr(node, "name", None) or node.targets[0].id for node in tree.body
                            if isinstance(node, (ast.FunctionDef, ast.ClassDef, ast.Assign))] for path, tree in trees()}
        # A file draws only from those before it here, so no two draw from one another.
        order = ["states", "ways", "lanes"]
        for path, node in nodes(ast.ImportFrom):
            package, name = node.module.split(".")
            self.assertEqual((package, node.level), ("rightring", 0))
            self.assertLess(order.index(name), order.index(path.stem))
            for alias in node.names:
                self.assertIn(alias.name, made[name])
                self.assertIsNone(alias.asname)

    def test_no_local_is_called_like_a_class_or_an_import(self):
        for path, tree in trees():
            top = [alias.name for node in tree.body if isinstance(node, ast.ImportFrom) for alias in node.names]
            top += [node.name for node in tree.body if isinstance(node, (ast.ClassDef, ast.FunctionDef))]
            local = [node.arg for node in ast.walk(tree) if isinstance(node, ast.arg)]
            local += [node.id for node in ast.walk(tree) if isinstance(node, ast.Name) and isinstance(node.ctx, ast.Store)]
            self.assertEqual(set(top) & set(local), set(), path)
            self.assertEqual(len(top), len(set(top)), path)

    def test_nothing_is_kept_at_the_top(self):
        for path, tree in trees():
            for node in tree.body:
                if isinstance(node, ast.Assign):
                    for part in ast.walk(node.value):
                        self.assertNotIsInstance(part, (ast.List, ast.Dict, ast.Set, ast.Call), (path, node.lineno))

    def test_walked_at_once(self):
        for path, tree in trees():
            walked = [id(node.iter) for node in ast.walk(tree) if isinstance(node, (ast.For, ast.comprehension))]
            for node in ast.walk(tree):
                if isinstance(node, ast.Call) and isinstance(node.func, ast.Name):
                    if node.func.id in ("range", "zip", "enumerate", "reversed"):
                        self.assertIn(id(node), walked, (path, node.lineno))
                    self.assertNotIn(node.func.id, ("set", "frozenset"), (path, node.lineno))

    def test_statements_and_expressions(self):
        for path, node in nodes(ast.stmt):
            self.assertIsInstance(node, STATEMENTS, (path, node.lineno))
        self.assertEqual(nodes(EXPRESSIONS_OUT), [])
        for path, node in nodes(ast.Assign):
            self.assertEqual(len(node.targets), 1, node.lineno)
            self.assertIsInstance(node.targets[0], (ast.Name, ast.Attribute, ast.Subscript), node.lineno)
        for path, node in nodes((ast.While, ast.For)):
            self.assertEqual(node.orelse, [], node.lineno)
        for path, node in nodes(ast.BinOp):
            self.assertFalse(isinstance(node.op, ast.Pow) and not isinstance(node.right, ast.Constant), node.lineno)
        for path, node in nodes(ast.Constant):
            self.assertIsInstance(node.value, (int, str, type(None)), node.lineno)
            self.assertNotIn("%", str(node.value), node.lineno)
        for path, node in nodes(ast.ListComp):
            self.assertEqual((len(node.generators), len(node.generators[0].ifs) <= 1), (1, True), node.lineno)

    def test_functions(self):
        for path, node in nodes(ast.FunctionDef):
            told = node.args
            self.assertEqual((told.vararg, told.kwarg, told.kwonlyargs, told.posonlyargs, node.decorator_list),
                             (None, None, [], [], []), node.name)

    def test_the_top_of_a_file(self):
        for path, tree in trees():
            bound = []
            for node in tree.body:
                self.assertIsInstance(node, (ast.Expr, ast.FunctionDef, ast.ClassDef, ast.Assign, ast.ImportFrom))
                bound.append(node.targets[0].id if isinstance(node, ast.Assign) else getattr(node, "name", None))
            bound = [name for name in bound if name]
            self.assertEqual(len(bound), len(set(bound)), path)

    def test_names(self):
        bound = [node.arg for path, node in nodes(ast.arg)]
        bound += [node.name for path, node in nodes((ast.FunctionDef, ast.ClassDef))]
        bound += [node.id for path, node in nodes(ast.Name) if isinstance(node.ctx, ast.Store)]
        for name in bound:
            self.assertNotIn(name, dir(builtins))
            self.assertTrue(name == "__init__" or re.fullmatch("[A-Za-z][A-Za-z0-9_]*", name), name)
            self.assertNotIn(name, NAMES_OUT)
        for path, node in nodes(ast.Name):
            if node.id not in bound:
                self.assertIn(node.id, OWN_NAMES, node.lineno)

    def test_methods(self):
        methods = [part.name for path, node in nodes(ast.ClassDef) for part in node.body if hasattr(part, "name")]
        for path, node in nodes(ast.Call):
            if isinstance(node.func, ast.Attribute):
                self.assertIn(node.func.attr, METHODS + methods, node.lineno)

    def test_words(self):
        for path in FILES:
            words = re.findall(r"\w+", path.read_text(encoding="utf-8"))
            for word in words:
                self.assertNotIn(word, WORDS_OUT, path)
                self.assertNotRegex(word, "dataclass|overload|contextmanager")


if __name__ == "__main__":
    unittest.main()
