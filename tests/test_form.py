"""The rules of the language subset, as far as a short check can see them (L1 to L28)."""

import ast
import builtins
import os
import re
import unittest

from stepletters import errors

ROOT = os.path.join(os.path.dirname(os.path.abspath(__file__)), "..")
PACKAGE = "stepletters"

BUILTINS = set(
    "len range enumerate zip min max sum abs sorted reversed int str bool bytes list tuple dict set frozenset "
    "isinstance ord repr any all divmod iter NotImplemented Exception ValueError TypeError KeyError IndexError "
    "LookupError ZeroDivisionError ArithmeticError OverflowError RuntimeError NotImplementedError".split()
)
METHODS = set(
    "append clear copy count endswith extend find get index insert isalnum isalpha isdigit islower isspace isupper "
    "items join keys ljust lower lstrip partition pop remove replace reverse rfind rjust rpartition rsplit rstrip "
    "setdefault split splitlines startswith strip update upper values zfill bit_length".split()
)
DUNDERS = set(
    "__init__ __eq__ __repr__ __str__ __len__ __iter__ __add__ __sub__ __mul__ __neg__ __bool__ __contains__".split()
)
DECORATORS = {"property", "classmethod", "staticmethod"}
MATH = {"gcd", "lcm", "isqrt", "comb", "perm", "factorial"}
AT_ONCE = {"range", "zip", "enumerate", "reversed"}
VIEWS = {"items", "keys", "values"}
TAKERS = {"list", "tuple", "dict", "sorted", "sum", "any", "all", "min", "max", "enumerate", "zip", "iter", "len",
          "reversed"}
LISTS_ONLY = {"any", "all", "min", "max", "sum", "sorted"}
BARRED_WORDS = (
    "type typing typing_extensions enum Enum IntEnum StrEnum Flag IntFlag Generic Protocol ABC ABCMeta namedtuple "
    "NamedTuple TypedDict TYPE_CHECKING abstractmethod"
).split()
BARRED_NAMES = (
    "register mro elements open input law version_info with_traceback add_note attrgetter breakpoint builtins "
    "compile copyright credits delattr dir eval exec exit gc getattr globals hasattr help id importlib license "
    "locals methodcaller os quit setattr vars sys"
).split()
STATEMENTS = (
    ast.Assign, ast.AugAssign, ast.If, ast.While, ast.For, ast.Return, ast.Break, ast.Continue, ast.Pass, ast.Raise,
    ast.Assert, ast.Delete, ast.Expr, ast.FunctionDef, ast.Try,
)


def package_files():
    """The path of each file of the package, with its text and its syntax tree."""
    found = []
    for folder, folders, names in os.walk(os.path.join(ROOT, PACKAGE)):
        folders[:] = sorted(name for name in folders if name != "__pycache__")
        for name in sorted(names):
            path = os.path.join(folder, name)
            with open(path, encoding="utf-8") as file:
                text = file.read()
            found.append((os.path.relpath(path, ROOT), text, ast.parse(text)))
    return found


FILES = package_files()


def nodes(kind):
    """Each node of some kinds, with where it stands."""
    for path, _text, tree in FILES:
        for node in ast.walk(tree):
            if isinstance(node, kind):
                yield f"{path}:{getattr(node, 'lineno', 0)}", node


def parents(tree):
    """The node above each node."""
    return {child: node for node in ast.walk(tree) for child in ast.iter_child_nodes(node)}


def module_of(path):
    """The name of the module of a file."""
    name = path[:-3].replace(os.sep, ".")
    return name[: -len(".__init__")] if name.endswith(".__init__") else name


def bound_names(function):
    """The names that a function binds: parameters, targets, nested functions."""
    found = [argument.arg for argument in ast.walk(function.args) if isinstance(argument, ast.arg)]
    for node in ast.walk(function):
        if isinstance(node, ast.Name) and isinstance(node.ctx, ast.Store):
            found.append(node.id)
        if isinstance(node, ast.FunctionDef) and node is not function:
            found.append(node.name)
    return found


class FilesTest(unittest.TestCase):
    def test_only_plain_python_files(self):
        for path, _text, _tree in FILES:
            self.assertRegex(path, r"^[a-z0-9_/]+\.py$")
        folders = {os.path.dirname(path) for path, _text, _tree in FILES}
        for folder in folders:
            self.assertTrue(os.path.exists(os.path.join(ROOT, folder, "__init__.py")), folder)

    def test_sizes(self):
        for path, text, _tree in FILES:
            lines = text.split("\n")
            self.assertLessEqual(len(lines), 399, path)
            for at, line in enumerate(lines):
                self.assertLessEqual(len(line), 120, f"{path}:{at + 1}")
                self.assertTrue(all(" " <= sign <= "~" for sign in line), f"{path}:{at + 1}")
        for place, node in nodes(ast.FunctionDef):
            self.assertLessEqual(node.end_lineno - node.lineno + 1, 40, place)

    def test_barred_words(self):
        for place, node in nodes((ast.Name, ast.Attribute, ast.arg, ast.Constant)):
            words = [getattr(node, name, "") for name in ("id", "attr", "arg")]
            for word in words:
                self.assertNotIn(word, BARRED_WORDS, place)
            if isinstance(node, ast.Constant) and isinstance(node.value, str):
                self.assertNotIn("%", node.value, place)
                self.assertNotIn("__", node.value, place)


class ImportsTest(unittest.TestCase):
    def test_imports_name_the_file_that_defines_the_name(self):
        defined = {}
        for path, _text, tree in FILES:
            names = [node.name for node in tree.body if isinstance(node, (ast.FunctionDef, ast.ClassDef))]
            names += [node.targets[0].id for node in tree.body if isinstance(node, ast.Assign)]
            defined[module_of(path)] = names
        for place, node in nodes((ast.Import, ast.ImportFrom)):
            self.assertIsInstance(node, ast.ImportFrom, place)
            self.assertEqual(node.level, 0, place)
            for name in node.names:
                self.assertIsNone(name.asname, place)
                if node.module == "math":
                    self.assertIn(name.name, MATH, place)
                else:
                    self.assertIn(name.name, defined.get(node.module, []), place)

    def test_no_file_imports_what_it_does_not_use(self):
        for path, _text, tree in FILES:
            used = {node.id for node in ast.walk(tree) if isinstance(node, ast.Name)}
            for node in tree.body:
                if isinstance(node, ast.ImportFrom):
                    for name in node.names:
                        self.assertIn(name.name, used, path)

    def test_no_circle_of_imports(self):
        above = {}
        for path, _text, tree in FILES:
            modules = {node.module for node in tree.body if isinstance(node, ast.ImportFrom)}
            above[module_of(path)] = {module for module in modules if module != "math"}
        while above:
            free = [module for module in above if not above[module] & set(above)]
            self.assertTrue(free, f"a circle among {sorted(above)}")
            for module in free:
                del above[module]


class ModulesTest(unittest.TestCase):
    def test_module_level(self):
        for path, _text, tree in FILES:
            names = []
            for at, node in enumerate(tree.body):
                place = f"{path}:{node.lineno}"
                if isinstance(node, ast.Expr):
                    self.assertEqual(at, 0, place)
                elif isinstance(node, ast.Assign):
                    self.assertEqual(len(node.targets), 1, place)
                    self.assertFalse([part for part in ast.walk(node.value) if isinstance(part, ast.Call)], place)
                    names.append(node.targets[0].id)
                elif isinstance(node, ast.ImportFrom):
                    names += [name.name for name in node.names]
                else:
                    self.assertIsInstance(node, (ast.FunctionDef, ast.ClassDef), place)
                    names.append(node.name)
            self.assertEqual(len(names), len(set(names)), path)

    def test_names(self):
        builtin = set(dir(builtins))
        for path, _text, tree in FILES:
            top = [node for node in tree.body if isinstance(node, ast.ClassDef)]
            imported = {name.name for node in tree.body if isinstance(node, ast.ImportFrom) for name in node.names}
            imported |= {node.name for node in top}
            functions = [node for node in ast.walk(tree) if isinstance(node, ast.FunctionDef)]
            for function in functions:
                for name in bound_names(function):
                    place = f"{path}:{function.lineno} {name}"
                    self.assertNotIn(name, builtin, place)
                    self.assertNotIn(name, imported, place)
                    self.assertNotIn(name, BARRED_NAMES, place)
                    self.assertRegex(name, r"^(_|_?[a-z][a-z0-9_]*)$", place)
            for node in tree.body:
                if isinstance(node, (ast.FunctionDef, ast.ClassDef)):
                    self.assertNotIn(node.name, builtin, path)
                    self.assertNotIn(node.name, BARRED_NAMES, path)


class StatementsTest(unittest.TestCase):
    def test_statements(self):
        for path, _text, tree in FILES:
            for function in [node for node in ast.walk(tree) if isinstance(node, ast.FunctionDef)]:
                for node in ast.walk(function):
                    if isinstance(node, ast.stmt) and not isinstance(node, STATEMENTS):
                        is_yield = isinstance(node, ast.Expr)
                        self.assertTrue(is_yield, f"{path}:{node.lineno}")

    def test_no_floats_no_division_no_walrus_on_values(self):
        for place, node in nodes((ast.Constant, ast.BinOp, ast.AugAssign, ast.Lambda, ast.Global)):
            self.assertNotIsInstance(node, (ast.Global, ast.Lambda), place)
            if isinstance(node, ast.Constant):
                self.assertNotIsInstance(node.value, (float, complex), place)
            else:
                self.assertNotIsInstance(node.op, ast.Div, place)
            if isinstance(node, ast.BinOp) and isinstance(node.op, ast.Pow):
                self.assertIsInstance(node.right, ast.Constant, place)
                self.assertLessEqual(node.right.value, 64, place)

    def test_is_stands_beside_none_true_and_false(self):
        for place, node in nodes(ast.Compare):
            for sign, right in zip(node.ops, node.comparators):
                if isinstance(sign, (ast.Is, ast.IsNot)):
                    self.assertIsInstance(right, ast.Constant, place)
                    self.assertIn(right.value, (None, True, False), place)

    def test_raise_makes_its_error(self):
        for place, node in nodes(ast.Raise):
            self.assertIsInstance(node.exc, ast.Call, place)
            self.assertIsInstance(node.exc.func, ast.Name, place)
            self.assertIsNone(node.cause, place)

    def test_only_own_errors_are_caught(self):
        own = {node.name for _place, node in nodes(ast.ClassDef) if node.name in vars(errors)}
        for place, node in nodes(ast.Try):
            for handler in node.handlers:
                kinds = handler.type.elts if isinstance(handler.type, ast.Tuple) else [handler.type]
                for kind in kinds:
                    self.assertIn(kind.id, own, place)
            # what stands in a `finally` is a plain assignment of names to names and attributes
            for part in node.finalbody:
                self.assertIsInstance(part, ast.Assign, place)
                for inner in ast.walk(part):
                    self.assertIsInstance(inner, (ast.Assign, ast.Tuple, ast.Name, ast.Attribute, ast.expr_context), place)

    def test_classes_are_not_values(self):
        own = {node.name for _place, node in nodes(ast.ClassDef)}
        for path, _text, tree in FILES:
            above = parents(tree)
            for node in ast.walk(tree):
                if isinstance(node, ast.Name) and node.id in own:
                    taker = above[node]
                    if isinstance(taker, ast.Tuple):
                        taker = above[taker]
                    place = f"{path}:{node.lineno}"
                    self.assertIsInstance(taker, (ast.Call, ast.ClassDef, ast.ExceptHandler, ast.Attribute), place)
                    if isinstance(taker, ast.Call) and taker.func is not node:
                        self.assertEqual(taker.func.id, "isinstance", place)
                        self.assertIsNot(taker.args[0], node, place)

    def test_no_set_is_kept(self):
        for path, _text, tree in FILES:
            above = parents(tree)
            for node in ast.walk(tree):
                is_call = isinstance(node, ast.Call) and isinstance(node.func, ast.Name) and node.func.id == "set"
                if is_call or isinstance(node, (ast.SetComp, ast.Set)):
                    taker = above[node]
                    self.assertIsInstance(taker, ast.Call, f"{path}:{node.lineno}")
                    self.assertIn(taker.func.id, ("sorted", "len"), f"{path}:{node.lineno}")


class CallsTest(unittest.TestCase):
    def test_builtins(self):
        known = set(dir(builtins))
        for path, _text, tree in FILES:
            above = parents(tree)
            for node in ast.walk(tree):
                if isinstance(node, ast.Name) and isinstance(node.ctx, ast.Load) and node.id in known:
                    if node.id in DECORATORS and isinstance(above[node], ast.FunctionDef):
                        continue
                    self.assertIn(node.id, BUILTINS, f"{path}:{node.lineno}")

    def test_methods_of_builtin_values(self):
        own = set()
        for _place, node in nodes(ast.ClassDef):
            own |= {part.name for part in node.body if isinstance(part, ast.FunctionDef)}
        for place, node in nodes(ast.Call):
            if isinstance(node.func, ast.Attribute):
                self.assertIn(node.func.attr, METHODS | own, place)
                if node.func.attr in METHODS - own:
                    self.assertFalse(node.keywords, place)

    def test_iterators_are_iterated_at_once(self):
        for path, _text, tree in FILES:
            above = parents(tree)
            for node in ast.walk(tree):
                if not isinstance(node, ast.Call):
                    continue
                by_name = isinstance(node.func, ast.Name) and node.func.id in AT_ONCE
                by_view = isinstance(node.func, ast.Attribute) and node.func.attr in VIEWS
                if by_name or by_view:
                    place = f"{path}:{node.lineno}"
                    taker = above[node]
                    if isinstance(taker, ast.Call):
                        self.assertIsInstance(taker.func, ast.Name, place)
                        self.assertIn(taker.func.id, TAKERS, place)
                    else:
                        self.assertIsInstance(taker, (ast.For, ast.comprehension, ast.Compare), place)

    def test_no_generator_expressions_where_classes_compare(self):
        for path, _text, tree in FILES:
            above = parents(tree)
            for node in ast.walk(tree):
                if isinstance(node, ast.GeneratorExp):
                    self.assertNotIn(above[node].func.id, LISTS_ONLY, f"{path}:{node.lineno}")

    def test_a_loop_does_not_change_what_it_goes_over(self):
        for place, node in nodes(ast.For):
            over = node.iter
            if isinstance(over, ast.Call) and isinstance(over.func, ast.Attribute):
                over = over.func.value
            if not isinstance(over, ast.Name):
                continue
            for part in ast.walk(node):
                if isinstance(part, ast.Subscript) and isinstance(part.ctx, (ast.Store, ast.Del)):
                    self.assertNotEqual(getattr(part.value, "id", None), over.id, place)
                if isinstance(part, ast.Call) and isinstance(part.func, ast.Attribute):
                    if part.func.attr in ("append", "pop", "clear", "extend", "insert", "remove", "update"):
                        self.assertNotEqual(getattr(part.func.value, "id", None), over.id, place)


class ClassesTest(unittest.TestCase):
    def test_methods_and_decorators(self):
        for place, node in nodes(ast.ClassDef):
            self.assertFalse(node.decorator_list, place)
            names = [part.name for part in node.body if isinstance(part, ast.FunctionDef)]
            self.assertEqual(len(names), len(set(names)), place)
            for part in node.body:
                if isinstance(part, ast.FunctionDef):
                    if part.name.startswith("__"):
                        self.assertIn(part.name, DUNDERS, place)
                    for decorator in part.decorator_list:
                        self.assertIn(decorator.id, DECORATORS, place)
                else:
                    self.assertIsInstance(part, ast.Expr, place)

    def test_attributes_that_are_read_are_assigned(self):
        assigned, methods = set(), set()
        for _place, node in nodes(ast.Attribute):
            if isinstance(node.ctx, ast.Store):
                self.assertIsInstance(node.value, ast.Name)
                assigned.add(node.attr)
        for _place, node in nodes(ast.ClassDef):
            methods |= {part.name for part in node.body if isinstance(part, ast.FunctionDef)}
        self.assertFalse(assigned & methods)
        for place, node in nodes(ast.Attribute):
            self.assertIn(node.attr, assigned | methods | METHODS, place)

    def test_returns_of_double_underscore_methods(self):
        for place, node in nodes(ast.FunctionDef):
            if node.name in ("__len__", "__str__", "__repr__"):
                self.assertIsInstance(node.body[-1], ast.Return, place)
            if node.name == "__init__":
                self.assertFalse([part for part in ast.walk(node) if isinstance(part, ast.Return)], place)

    def test_operators_change_nothing_that_they_did_not_make(self):
        for place, node in nodes(ast.FunctionDef):
            if node.name in DUNDERS - {"__init__"}:
                for part in ast.walk(node):
                    if isinstance(part, (ast.Attribute, ast.Subscript)):
                        self.assertIsInstance(part.ctx, ast.Load, place)

    def test_docstrings(self):
        for path, _text, tree in FILES:
            self.assertTrue(ast.get_docstring(tree), path)
            for node in tree.body:
                if isinstance(node, (ast.FunctionDef, ast.ClassDef)) and not node.name.startswith("_"):
                    self.assertTrue(ast.get_docstring(node), f"{path}:{node.lineno}")


class NumbersTest(unittest.TestCase):
    def test_literals_are_short_and_strings_plain(self):
        for path, text, _tree in FILES:
            self.assertFalse(re.search(r"\\[^nt\\\"']", text), path)
            self.assertFalse(re.search(r"[0-9]{900}", text), path)


if __name__ == "__main__":
    unittest.main()
