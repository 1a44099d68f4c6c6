"""The rules of the language that can be seen in the files of the package one by one."""

import ast
import builtins
import functools
import importlib
import os
import re
import unittest

FOLDER = os.path.join(os.path.dirname(os.path.dirname(os.path.abspath(__file__))), "toldpast")

BUILTINS = """len range enumerate zip min max sum abs sorted reversed int str bool bytes list tuple dict set frozenset
    isinstance ord repr any all divmod pow iter next map super property staticmethod classmethod getattr hasattr setattr
    Exception ValueError TypeError KeyError IndexError LookupError ZeroDivisionError ArithmeticError OverflowError
    RuntimeError NotImplementedError StopIteration NotImplemented""".split()

METHODS = """append clear copy count endswith extend find get index insert isalnum isalpha isdigit islower isspace isupper
    items join keys ljust lower lstrip partition pop remove replace reverse rfind rjust rpartition rsplit rstrip setdefault
    split splitlines startswith strip update upper values zfill bit_length add discard __init__""".split()

BARRED_NAMES = """register mro elements open input law version_info with_traceback add_note attrgetter breakpoint builtins
    compile copyright credits delattr dir eval exec exit gc globals help id importlib license locals methodcaller os quit
    type vars sys""".split()

BARRED_WORDS = """typing typing_extensions enum Enum IntEnum StrEnum Flag IntFlag Generic Protocol ABC ABCMeta namedtuple
    NamedTuple TypedDict TYPE_CHECKING abstractmethod metaclass Meta _wall _WallAttr""".split()

DECORATORS = ("property", "staticmethod", "classmethod")


def files():
    """The names of the files of the package."""
    return sorted(name for name in os.listdir(FOLDER) if name != "__pycache__")


def text_of_file(name):
    with open(os.path.join(FOLDER, name), encoding="utf-8", newline="") as file:
        return file.read()


@functools.cache
def tree_of(name):
    """What a file consists of."""
    return ast.parse(text_of_file(name))


def nodes(name, *kinds):
    """The nodes of some kinds in a file."""
    return [node for node in ast.walk(tree_of(name)) if isinstance(node, kinds)]


def imported(name):
    """The modules that a file imports from, with the names that it takes from them."""
    return [(node.module, [alias.name for alias in node.names]) for node in nodes(name, ast.ImportFrom)]


def own_methods():
    """The names of all methods of the package."""
    found = []
    for name in files():
        for node in nodes(name, ast.ClassDef):
            found.extend(inner.name for inner in node.body if isinstance(inner, ast.FunctionDef))
    return found


class TestFiles(unittest.TestCase):

    def test_names_of_files(self):
        for name in files():
            self.assertTrue(re.fullmatch("(__init__|[a-z][a-z0-9_]*)[.]py", name), name)

    def test_characters_and_sizes(self):
        for name in files():
            text = text_of_file(name)
            self.assertEqual([], [c for c in text if c != "\n" and not " " <= c <= "~"], name)
            self.assertLessEqual(len(text.splitlines()), 399, name)
            self.assertEqual([], [line for line in text.splitlines() if len(line) > 120 or line != line.rstrip()], name)

    def test_sizes_of_functions(self):
        for name in files():
            for node in nodes(name, ast.FunctionDef):
                self.assertLessEqual(node.end_lineno - node.lineno + 1, 40, (name, node.name))

    def test_barred_words(self):
        for name in files():
            words = re.findall("[A-Za-z_0-9]+", text_of_file(name))
            self.assertEqual([], [word for word in words if word in BARRED_WORDS], name)
            self.assertNotIn("(type)", text_of_file(name))

    def test_module_level(self):
        for name in files():
            for node in tree_of(name).body:
                if isinstance(node, ast.Expr):
                    self.assertIsInstance(node.value.value, str)
                elif isinstance(node, ast.Assign):
                    self.assertEqual([ast.Name], [target.__class__ for target in node.targets])
                else:
                    self.assertIsInstance(node, (ast.ImportFrom, ast.FunctionDef, ast.ClassDef), name)


class TestImports(unittest.TestCase):

    def test_only_own_modules_by_full_names(self):
        for name in files():
            self.assertEqual([], nodes(name, ast.Import))
            for module, names in imported(name):
                self.assertTrue(module.startswith("toldpast."), module)
                found = importlib.import_module(module)
                for item in names:
                    defined = getattr(getattr(found, item), "__module__", module)
                    self.assertEqual(module, defined, item)

    def test_no_two_files_import_from_each_other(self):
        reached = {"toldpast." + name[:-3]: [module for module, _ in imported(name)] for name in files()}
        done = []
        while len(done) < len(reached):
            ready = [m for m in reached if m not in done and all(other in done for other in reached[m])]
            self.assertTrue(ready, "a ring of imports")
            done.extend(ready)

    def test_each_import_is_used_and_bound_once(self):
        for name in files():
            used = [node.id for node in nodes(name, ast.Name)]
            bound = [item for _, names in imported(name) for item in names]
            bound = bound + [node.name for node in tree_of(name).body if hasattr(node, "name")]
            self.assertEqual(len(bound), len(set(bound)), name)
            for _, names in imported(name):
                self.assertEqual([], [item for item in names if item not in used], name)


class TestCode(unittest.TestCase):

    def test_statements_and_signs(self):
        barred = (ast.Global, ast.AsyncFunctionDef, ast.Await, ast.AsyncFor, ast.AsyncWith, ast.Div, ast.MatMult)
        for name in files():
            self.assertEqual([], nodes(name, *barred), name)
            for node in nodes(name, ast.Constant):
                self.assertNotIsInstance(node.value, (float, complex))
                if isinstance(node.value, str):
                    self.assertNotIn("%", node.value)

    def test_decorators(self):
        for name in files():
            for node in nodes(name, ast.FunctionDef, ast.ClassDef):
                for decorator in node.decorator_list:
                    self.assertIsInstance(node, ast.FunctionDef)
                    self.assertTrue(getattr(decorator, "id", "") in DECORATORS or decorator.attr == "setter")

    def test_builtins(self):
        for name in files():
            for node in nodes(name, ast.Name):
                if node.id in vars(builtins):
                    self.assertIn(node.id, BUILTINS, name)
                    self.assertIsInstance(node.ctx, ast.Load)

    def test_names(self):
        for name in files():
            given = [node.name for node in nodes(name, ast.FunctionDef, ast.ClassDef)]
            given = given + [node.arg for node in nodes(name, ast.arg)]
            given = given + [node.id for node in nodes(name, ast.Name) if isinstance(node.ctx, ast.Store)]
            methods = own_methods()
            for word in given:
                self.assertNotIn(word, BARRED_NAMES)
                self.assertNotIn(word, vars(builtins))
                self.assertTrue(re.fullmatch("_?[A-Za-z][A-Za-z0-9_]*|_|__[a-z]+__", word), word)
                self.assertFalse(word.startswith("__") and word not in methods, word)

    def test_no_generator_expressions_where_books_are_compared(self):
        for name in files():
            self.assertEqual([], nodes(name, ast.GeneratorExp), name)

    def test_is_stands_beside_none_true_and_false(self):
        for name in files():
            for node in nodes(name, ast.Compare):
                for sign, right in zip(node.ops, node.comparators):
                    if isinstance(sign, (ast.Is, ast.IsNot)):
                        self.assertTrue(isinstance(right, ast.Constant) and right.value in (None, True, False))

    def test_methods_that_are_called(self):
        allowed = METHODS + own_methods()
        for name in files():
            for node in nodes(name, ast.Call):
                if isinstance(node.func, ast.Attribute):
                    self.assertIn(node.func.attr, allowed, name)

    def test_a_class_with_items_says_how_it_is_iterated_over(self):
        for name in files():
            for node in nodes(name, ast.ClassDef):
                methods = [inner.name for inner in node.body if isinstance(inner, ast.FunctionDef)]
                self.assertEqual(len(methods), len(set(methods)))
                self.assertTrue("__getitem__" not in methods or "__iter__" in methods, node.name)

    def test_sets_are_not_used(self):
        for name in files():
            self.assertEqual([], nodes(name, ast.Set, ast.SetComp), name)
            self.assertNotIn("set", [node.id for node in nodes(name, ast.Name)])
            self.assertNotIn("frozenset", [node.id for node in nodes(name, ast.Name)])

    def test_generators(self):
        every = [node.name for name in files() for node in nodes(name, ast.FunctionDef)]
        for name in files():
            used = [node.id for node in nodes(name, ast.Name)]
            self.assertEqual([], [word for word in used if word in ("next", "StopIteration")])
            for node in nodes(name, ast.FunctionDef):
                yields = [inner for inner in ast.walk(node) if isinstance(inner, (ast.Yield, ast.YieldFrom))]
                plain = [inner.value for inner in ast.walk(node) if isinstance(inner, ast.Expr)]
                self.assertEqual([], [inner for inner in yields if inner not in plain], node.name)
                if yields:
                    self.assertEqual([node.name], [word for word in every if word == node.name])
                    self.assertEqual([], [inner for inner in ast.walk(node) if isinstance(inner, ast.Return)])

    def test_local_names_are_not_those_of_classes_and_imports(self):
        for name in files():
            outer = [item for _, names in imported(name) for item in names]
            outer += [node.name for node in tree_of(name).body if hasattr(node, "name")]
            local = [node.arg for node in nodes(name, ast.arg)]
            local += [node.id for node in nodes(name, ast.Name) if isinstance(node.ctx, ast.Store)]
            self.assertEqual([], [word for word in local if word in outer], name)

    def test_keywords_of_calls(self):
        for name in files():
            for node in nodes(name, ast.Call):
                for keyword in node.keywords:
                    self.assertIn(keyword.arg, ("default", "key", "reverse", "separator", "low", "high"), name)

    def test_only_own_errors_are_caught(self):
        for name in files():
            own = [item for module, names in imported(name) if module == "toldpast.errors" for item in names]
            for node in nodes(name, ast.Try):
                for handler in node.handlers:
                    self.assertIn(handler.type.id, own)
                # What is done in the end is an assignment of a literal to an attribute.
                for inner in node.finalbody:
                    self.assertIsInstance(inner, ast.Assign)
                    self.assertEqual([ast.Attribute], [target.__class__ for target in inner.targets])
                    self.assertIsInstance(inner.value, ast.Constant)

    def test_tables_of_functions(self):
        for name in files():
            lines = {node.name: node.lineno for node in tree_of(name).body if isinstance(node, ast.FunctionDef)}
            for node in tree_of(name).body:
                if isinstance(node, ast.Assign) and isinstance(node.value, ast.Dict):
                    for value in node.value.values:
                        if isinstance(value, ast.Name):
                            self.assertLess(lines[value.id], node.lineno)
                        else:
                            self.assertIsInstance(value, (ast.Constant, ast.Tuple))
            for node in nodes(name, ast.Call):
                self.assertIsInstance(node.func, (ast.Name, ast.Attribute), "called from an item")

    def test_stars_stand_before_names(self):
        for name in files():
            for node in nodes(name, ast.Starred):
                self.assertIsInstance(node.value, (ast.Name, ast.Attribute, ast.Call, ast.Subscript))
            for node in nodes(name, ast.Call):
                for argument in node.args:
                    if isinstance(argument, ast.Starred):
                        self.assertIsInstance(argument.value, ast.Name, name)


class TestClasses(unittest.TestCase):

    def stored(self, node):
        """The names of the attributes that are assigned in a class."""
        return [inner.attr for inner in ast.walk(node) if isinstance(inner, ast.Attribute)
                and isinstance(inner.ctx, ast.Store)]

    def test_no_name_is_a_method_and_an_attribute(self):
        attributes = [word for name in files() for node in nodes(name, ast.ClassDef) for word in self.stored(node)]
        methods = own_methods()
        self.assertEqual([], [word for word in attributes if word in methods])
        barred = """items keys values pop update append clear extend insert remove reverse setdefault sort args encode
            decode hex fromhex format mro""".split()
        self.assertEqual([], [word for word in attributes if word in barred])
        self.assertNotIn("keys", own_methods())

    def test_attributes_that_are_read_are_assigned_or_methods(self):
        attributes = [word for name in files() for node in nodes(name, ast.ClassDef) for word in self.stored(node)]
        known = attributes + own_methods() + METHODS
        for name in files():
            for node in nodes(name, ast.Attribute):
                self.assertIn(node.attr, known, name)

    def test_operators_change_nothing(self):
        signs = ["__eq__", "__len__", "__contains__", "__getitem__", "__iter__", "__or__", "__and__", "__add__", "__sub__",
                 "__neg__", "__abs__"]
        for name in files():
            for node in nodes(name, ast.FunctionDef):
                if node.name in signs or node.decorator_list:
                    for inner in ast.walk(node):
                        self.assertNotIsInstance(inner, (ast.Assign, ast.AugAssign, ast.Delete), (name, node.name))

    def test_properties_have_no_name_of_a_method_of_a_builtin_value(self):
        for name in files():
            for node in nodes(name, ast.FunctionDef):
                if node.decorator_list:
                    self.assertNotIn(node.name, METHODS)
                    self.assertEqual(["self"], [argument.arg for argument in node.args.args])


if __name__ == "__main__":
    unittest.main()
