"""The interface: each name stands in its own file, with its parameters and their default values."""

import ast
import importlib
import inspect
import os
import unittest

ROOT = os.path.dirname(os.path.dirname(os.path.abspath(__file__)))

FUNCTIONS = {
    "validation": {
        "is_integer": "(value, low, high)", "is_name": "(value)", "is_list": "(value)", "is_terms": "(value)",
        "parse_integer": "(text, *, low=0, high=999999)", "split_words": "(text, *, separator=' ')",
    },
    "books": {"same_term": "(book, number, other, other_number)"},
}

METHODS = {
    "books": {
        "Book": {
            "__init__": "(self, rows=())", "constant": "(self, symbol)", "apply": "(self, symbol, numbers)",
            "sample": "(self, name, turn)", "rows": "(self)", "__len__": "(self)", "__getitem__": "(self, number)",
            "__contains__": "(self, value)", "__eq__": "(self, other)", "copied": "(self)", "parts": "(self, number)",
            "size": "(self, number)", "depth": "(self, number)", "text": "(self, number)", "read": "(self, text)",
            "evaluate": "(self, number, meaning, *, samples=None)", "carry": "(self, other, number)",
            "differ": "(self, one, other)",
        },
    },
}

MODULES = ["books", "errors", "validation"]


def definitions(module):
    """What is defined at the top of a file, by its name."""
    path = os.path.join(ROOT, "toldpast", module + ".py")
    with open(path, encoding="utf-8") as file:
        tree = ast.parse(file.read())
    return {node.name: node for node in tree.body if isinstance(node, (ast.FunctionDef, ast.ClassDef))}


class TestInterface(unittest.TestCase):

    def test_functions(self):
        for module, functions in FUNCTIONS.items():
            found = importlib.import_module("toldpast." + module)
            for name, signature in functions.items():
                self.assertIsInstance(definitions(module)[name], ast.FunctionDef)
                self.assertEqual(signature, str(inspect.signature(getattr(found, name))), name)

    def test_methods_stand_in_their_own_class(self):
        for module, classes in METHODS.items():
            found = importlib.import_module("toldpast." + module)
            for name, methods in classes.items():
                node = definitions(module)[name]
                defined = [inner.name for inner in node.body if isinstance(inner, ast.FunctionDef)]
                for method, signature in methods.items():
                    self.assertIn(method, defined)
                    self.assertEqual(signature, str(inspect.signature(getattr(getattr(found, name), method))), method)

    def test_the_package_holds_an_init_and_the_modules(self):
        found = [name for name in os.listdir(os.path.join(ROOT, "toldpast")) if name != "__pycache__"]
        self.assertEqual(sorted(["__init__.py"] + [name + ".py" for name in MODULES]), sorted(found))


if __name__ == "__main__":
    unittest.main()
