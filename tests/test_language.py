"""The package keeps to the small part of Python that it is written in, as far as a look at its form can tell."""

import ast
import builtins
import pathlib
import re
import unittest

PACKAGE = pathlib.Path(__file__).resolve().parent.parent / "oneglance"
OWN_NAMES = """len range enumerate zip min max sum abs sorted reversed int str bool list tuple dict set frozenset
    isinstance ord repr any all divmod Exception ValueError TypeError KeyError IndexError LookupError
    ZeroDivisionError ArithmeticError OverflowError RuntimeError NotImplementedError AttributeError
    StopIteration""".split()
METHODS = """append clear copy count endswith extend find get index insert isalnum isalpha isdigit islower isspace
    isupper items join keys ljust lower lstrip partition pop remove replace reverse rfind rjust rpartition rsplit
    rstrip setdefault split splitlines startswith strip update upper values zfill bit_length""".split()
WORDS_OUT = """type typing typing_extensions enum Enum IntEnum StrEnum Flag IntFlag Generic Protocol ABC ABCMeta
    namedtuple NamedTuple TypedDict TYPE_CHECKING abstractmethod""".split()
NAMES_OUT = """register mro elements open input version_info with_traceback add_note getattr setattr super vars
    exec eval compile globals locals sys os""".split()
DOUBLE = ["__init__", "__eq__", "__repr__", "__str__", "__len__"]
STATEMENTS = (ast.Assign, ast.AugAssign, ast.If, ast.While, ast.For, ast.Return, ast.Break, ast.Continue, ast.Pass,
              ast.Raise, ast.Try, ast.Expr, ast.FunctionDef, ast.ClassDef, ast.ImportFrom)
KEYWORDS = {"sorted": ["key", "reverse"], "min": ["key", "default"], "max": ["key", "default"], "sum": ["start"],
            "enumerate": ["start"], "zip": ["strict"]}
WALKED = ["zip", "enumerate", "reversed", "range", "items", "keys", "values"]
WALKERS = ["list", "tuple", "dict", "sorted", "sum", "any", "all", "enumerate", "zip", "min", "max"]
VALUES_LIKE_METHODS = "count index title find get join lower upper split strip copy add".split()
PYTHONS_OWN = {name for kind in (str, int, list, dict, set, bytes, frozenset, tuple) for name in dir(kind)}
NODES_OUT = (ast.With, ast.Match, ast.Delete, ast.Global, ast.Nonlocal, ast.Assert, ast.Yield, ast.YieldFrom,
             ast.AsyncFunctionDef, ast.Await, ast.AsyncFor, ast.AsyncWith, ast.GeneratorExp, ast.SetComp,
             ast.DictComp, ast.NamedExpr, ast.Starred, ast.Div, ast.AnnAssign, ast.Import, ast.Set)


def own_files():
    return sorted(PACKAGE.glob("*.py"))


def parsed(path):
    return ast.parse(path.read_text("ascii"))


def nodes(path, *kinds):
    return [node for node in ast.walk(parsed(path)) if isinstance(node, kinds)]


def names_at_the_top(path):
    tops = [top.name for top in parsed(path).body if isinstance(top, (ast.FunctionDef, ast.ClassDef))]
    return tops + [top.targets[0].id for top in parsed(path).body if isinstance(top, ast.Assign)]


def names_bound(path):
    return ([node.id for node in nodes(path, ast.Name) if isinstance(node.ctx, ast.Store)]
            + [node.arg for node in nodes(path, ast.arg)]
            + [node.name for node in nodes(path, ast.FunctionDef, ast.ClassDef)])


def called(node):
    """The name that a call goes by, be it a function's or a method's."""
    return getattr(node.func, "id", getattr(node.func, "attr", None))


def is_plain(node):
    if isinstance(node, (ast.List, ast.Tuple)):
        return all(is_plain(part) for part in node.elts)
    if isinstance(node, ast.UnaryOp):
        return isinstance(node.op, ast.USub) and is_plain(node.operand)
    return isinstance(node, (ast.Constant, ast.Name))


def parents(path):
    return {child: node for node in ast.walk(parsed_once(path)) for child in ast.iter_child_nodes(node)}


def parsed_once(path, kept={}):
    return kept.setdefault(path, parsed(path))


class LanguageTest(unittest.TestCase):
    def test_files(self):
        self.assertIn(PACKAGE / "__init__.py", own_files())
        for path in PACKAGE.iterdir():
            if path.name != "__pycache__":
                self.assertRegex(path.name, r"\A([a-z][a-z0-9_]*|__init__)\.py\Z")

    def test_signs_and_sizes(self):
        for path in own_files():
            text = path.read_text("ascii")
            rows = text.split("\n")
            self.assertRegex(text, r"\A[ -~\n]*\Z")
            self.assertLessEqual(len(rows), 401)
            self.assertLessEqual(max(len(row) for row in rows), 120)
            for node in nodes(path, ast.FunctionDef):
                self.assertLessEqual(node.end_lineno - node.lineno + 1, 40, node.name)

    def test_words_that_stand_nowhere(self):
        for path in own_files():
            words = re.findall(r"\w+", path.read_text("ascii"))
            self.assertEqual([word for word in words if word in WORDS_OUT], [])

    def test_no_form_that_is_out(self):
        for path in own_files():
            self.assertEqual([node.lineno for node in nodes(path, *NODES_OUT)], [])
            for node in nodes(path, ast.FunctionDef, ast.ClassDef):
                self.assertEqual(node.decorator_list, [])
            for node in nodes(path, ast.For, ast.While):
                self.assertEqual(node.orelse, [])
            for node in nodes(path, ast.Assign):
                self.assertEqual(len(node.targets), 1)
            for node in nodes(path, ast.Try):
                self.assertEqual(node.finalbody, [])
            for node in nodes(path, ast.Constant):
                self.assertIsInstance(node.value, (int, str, type(None)))
                self.assertNotIn("%", str(node.value))

    def test_imports_are_the_packages_own(self):
        for path in own_files():
            for node in nodes(path, ast.ImportFrom):
                self.assertEqual(node.level, 0)
                source = PACKAGE / (node.module.removeprefix("oneglance.") + ".py")
                self.assertIn(source, own_files())
                tops = names_at_the_top(source)
                for name in node.names:
                    self.assertIn(name.name, tops)

    def test_no_two_files_draw_from_one_another(self):
        drawn = {}
        for path in own_files():
            drawn[path.stem] = {node.module.removeprefix("oneglance.") for node in nodes(path, ast.ImportFrom)}
        while drawn:
            free = [name for name in drawn if not drawn[name] & set(drawn)]
            self.assertNotEqual(free, [], drawn)
            for name in free:
                drawn.pop(name)

    def test_no_local_is_called_like_a_class_or_an_import(self):
        for path in own_files():
            taken = [name.name for node in nodes(path, ast.ImportFrom) for name in node.names]
            taken += [node.name for node in nodes(path, ast.ClassDef)]
            local = [node.id for node in nodes(path, ast.Name) if isinstance(node.ctx, ast.Store)]
            local += [node.arg for node in nodes(path, ast.arg)]
            self.assertEqual(sorted(set(taken) & set(local)), [])

    def test_names(self):
        for path in own_files():
            for name in names_bound(path):
                self.assertTrue(name in DOUBLE or not name.startswith("_"), name)
                self.assertFalse(hasattr(builtins, name) and name not in DOUBLE, name)
            for node in nodes(path, ast.Name):
                self.assertTrue(node.id in OWN_NAMES or not hasattr(builtins, node.id), node.id)
                self.assertNotIn(node.id, NAMES_OUT)

    def test_methods_of_pythons_own(self):
        own = [name for path in own_files() for name in names_bound(path)]
        for path in own_files():
            for node in nodes(path, ast.Call):
                if isinstance(node.func, ast.Attribute):
                    self.assertIn(node.func.attr, METHODS + own + DOUBLE)

    def test_tops_of_files(self):
        for path in own_files():
            tops = parsed(path).body
            self.assertIsInstance(tops[0].value.value, str)
            for top in tops[1:]:
                self.assertIsInstance(top, (ast.ImportFrom, ast.FunctionDef, ast.ClassDef, ast.Assign))
                if isinstance(top, ast.Assign):
                    self.assertTrue(is_plain(top.value), ast.dump(top))
            names = names_at_the_top(path) + [name.name for node in nodes(path, ast.ImportFrom) for name in node.names]
            self.assertEqual(len(set(names)), len(names))

    def test_functions_and_classes(self):
        for path in own_files():
            for node in nodes(path, ast.FunctionDef, ast.Lambda):
                form = node.args
                self.assertEqual([form.vararg, form.kwarg, form.kwonlyargs, form.posonlyargs], [None, None, [], []])
                self.assertTrue(all(is_plain(value) for value in form.defaults))
            for node in nodes(path, ast.arg):
                self.assertIsNone(node.annotation)
            for made in nodes(path, ast.ClassDef):
                self.assertLessEqual(len(made.bases), 1)
                methods = [node.name for node in made.body if isinstance(node, ast.FunctionDef)]
                self.assertEqual(len(set(methods)), len(methods))
                for node in made.body:
                    self.assertIsInstance(node, (ast.FunctionDef, ast.Pass))

    def test_statements(self):
        for path in own_files():
            for node in nodes(path, ast.stmt):
                self.assertIsInstance(node, STATEMENTS)
            for node in nodes(path, ast.Assign):
                self.assertNotIsInstance(node.targets[0], (ast.Tuple, ast.List))
            for node in nodes(path, ast.ListComp):
                self.assertEqual(len(node.generators), 1)
                self.assertLessEqual(len(node.generators[0].ifs), 1)
            for node in nodes(path, ast.FormattedValue):
                self.assertIsInstance(node.value, ast.Name)
                self.assertIsNone(node.format_spec)
            for node in nodes(path, ast.Raise):
                self.assertIsInstance(node.exc, ast.Call)
            for node in nodes(path, ast.BinOp):
                self.assertFalse(isinstance(node.op, ast.Pow) and not isinstance(node.right, ast.Constant))

    def test_handlers_take_errors_of_the_programs_own(self):
        own = names_at_the_top(PACKAGE / "errors.py")
        for path in own_files():
            for node in nodes(path, ast.ExceptHandler):
                self.assertIn(node.type.id, own)

    def test_values_are_given_through_local_names(self):
        for path in own_files():
            for node in nodes(path, ast.Attribute):
                if isinstance(node.ctx, ast.Store):
                    self.assertIsInstance(node.value, ast.Name)
                    self.assertNotIn(node.value.id, names_at_the_top(path))

    def test_names_of_values_and_methods(self):
        for path in own_files():
            for node in nodes(path, ast.Attribute):
                if isinstance(node.ctx, ast.Store):
                    self.assertTrue(node.attr not in PYTHONS_OWN or node.attr in VALUES_LIKE_METHODS, node.attr)
            for made in nodes(path, ast.ClassDef):
                for node in made.body:
                    if isinstance(node, ast.FunctionDef) and node.name not in DOUBLE:
                        self.assertTrue(node.name not in PYTHONS_OWN or node.name in METHODS + ["add", "discard"])

    def test_keywords(self):
        for path in own_files():
            for node in nodes(path, ast.Call):
                for keyword in node.keywords:
                    self.assertIn(keyword.arg, KEYWORDS.get(called(node), []))

    def test_walked_at_once(self):
        for path in own_files():
            above = parents(path)
            for node in ast.walk(parsed_once(path)):
                if isinstance(node, ast.Call) and called(node) in WALKED:
                    around = above[node]
                    if isinstance(around, (ast.For, ast.comprehension)):
                        self.assertIs(around.iter, node)
                    else:
                        self.assertIn(called(around), WALKERS)
                        self.assertIs(around.args[0], node)

    def test_sets(self):
        for path in own_files():
            above = parents(path)
            for node in ast.walk(parsed_once(path)):
                if isinstance(node, ast.Call) and called(node) in ("set", "frozenset"):
                    around = above[node]
                    if isinstance(around, ast.Call):
                        self.assertIn(called(around), ("sorted", "len"))
                    else:
                        self.assertIsInstance(around, (ast.Compare, ast.BinOp))

    def test_what_a_loop_walks_is_not_changed_in_it(self):
        changes = ["append", "clear", "extend", "insert", "pop", "remove", "reverse", "setdefault", "update"]
        for path in own_files():
            for loop in nodes(path, ast.For):
                walked = [ast.dump(part) for part in ast.walk(loop.iter) if isinstance(part, (ast.Name, ast.Attribute))]
                for node in ast.walk(loop):
                    if isinstance(node, ast.Call) and called(node) in changes and isinstance(node.func, ast.Attribute):
                        self.assertNotIn(ast.dump(node.func.value), walked)
                    if isinstance(node, ast.Subscript) and isinstance(node.ctx, ast.Store):
                        self.assertNotIn(ast.dump(node.value), walked)

    def test_is_stands_beside_none_and_truths(self):
        for path in own_files():
            for node in nodes(path, ast.Compare):
                if isinstance(node.ops[0], (ast.Is, ast.IsNot)):
                    self.assertIn(repr(getattr(node.comparators[0], "value", 0)), ("None", "True", "False"))

    def test_no_name_is_both_a_method_and_a_value(self):
        methods = []
        values = []
        for path in own_files():
            for made in nodes(path, ast.ClassDef):
                methods += [node.name for node in made.body if isinstance(node, ast.FunctionDef)]
            values += [node.attr for node in nodes(path, ast.Attribute) if isinstance(node.ctx, ast.Store)]
        self.assertEqual(sorted(set(methods) & set(values)), [])
