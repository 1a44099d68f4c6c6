"""The interface: each name stands in its own file, with its parameters and their default values."""

import ast
import importlib
import inspect
import os
import unittest

ROOT = os.path.dirname(os.path.dirname(os.path.abspath(__file__)))

FUNCTIONS = {
    "validation": {
        "is_integer": "(value, low, high)", "is_name": "(value)", "is_list": "(value)", "is_terms": "(value)",
        "parse_integer": "(text, *, low=0, high=999999)", "split_words": "(text, *, separator=' ')",
    },
    "books": {"same_term": "(book, number, other, other_number)"},
    "nets": {"renamed": "(net, names)"},
    "nettext": {
        "edge_text": "(source, starts)", "edge_of": "(word)", "text_of": "(net, *, first=0, step=1)", "net_of": "(text)",
    },
    "runs": {
        "answers": "(net, meaning, rows, *, first=0)", "turns": "(net, meaning, rows)", "free_run": "(net, count)",
    },
    "least": {
        "distances": "(net)", "advanced": "(net)", "classes": "(net)", "least": "(net)", "canonical": "(net)",
    },
    "compare": {
        "alike": "(one, other)", "first_unlike": "(one, other)", "difference": "(one, other)", "settles": "(one, other)",
        "parting": "(one, other)", "meaning_of": "(tables)",
    },
    "depths": {"depths": "(net)", "past": "(net, gate)", "bar": "(net, gate)"},
    "lags": {"lagged": "(net, lags)", "deepest": "(net)", "related": "(one, other)"},
    "moves": {
        "move": "(net, gate, step)", "moves": "(net)", "stages": "(net, steps)", "plan": "(net, lags, *, start=None)",
        "ranges": "(net)", "all_lags": "(net, *, most=200)",
    },
    "wishes": {
        "is_wish": "(value)", "meet": "(net, wishes, *, greatest=False)", "bounds": "(net, wishes)",
        "shows_none": "(net, wishes, ring)",
    },
    "joins": {"series": "(one, other)", "beside": "(*nets)", "looped": "(net, out, entry, starts, terms=())"},
}

METHODS = {
    "books": {
        "Book": {
            "__init__": "(self, rows=())", "constant": "(self, symbol)", "apply": "(self, symbol, numbers)",
            "sample": "(self, name, turn)", "rows": "(self)", "__len__": "(self)", "__getitem__": "(self, number)",
            "__contains__": "(self, value)", "__eq__": "(self, other)", "copied": "(self)", "parts": "(self, number)",
            "size": "(self, number)", "depth": "(self, number)", "text": "(self, number)", "read": "(self, text)",
            "evaluate": "(self, number, meaning, *, samples=None)", "carry": "(self, other, number)",
            "differ": "(self, one, other)",
        },
    },
    "nets": {
        "Net": {
            "__init__": "(self, inputs, gates, outs, terms=())", "terms": "(self)", "inputs": "(self)",
            "names": "(self)", "outs": "(self)", "edges": "(self, name)", "symbol": "(self, name)", "rows": "(self)",
            "readers": "(self, name)", "delays": "(self, reader, slot)", "source": "(self, reader, slot)",
            "__len__": "(self)", "__contains__": "(self, value)", "__getitem__": "(self, name)",
            "__eq__": "(self, other)",
        },
    },
    "runs": {
        "Machine": {
            "__init__": "(self, net, meaning)", "__call__": "(self, values)", "value_at": "(self, name)",
            "stored": "(self)", "copy": "(self)", "reset": "(self)",
        },
    },
    "lags": {
        "Lags": {
            "__init__": "(self, rows)", "__getitem__": "(self, name)", "rows": "(self)", "__eq__": "(self, other)",
            "__or__": "(self, other)", "__and__": "(self, other)", "__add__": "(self, other)",
            "__sub__": "(self, other)", "__neg__": "(self)", "__abs__": "(self)", "is_below": "(self, other)",
        },
    },
    "session": {
        "Session": {
            "__init__": "(self, net)", "net": "(self)", "first": "(self)", "done": "(self)", "__len__": "(self)",
            "say": "(self, line)", "say_all": "(self, lines)",
        },
    },
}

PROPERTIES = {"runs": {"Machine": ["turn"]}, "session": {"Session": ["busy"]}}

MODULES = ["books", "commands", "compare", "depths", "edits", "errors", "freeturns", "joins", "lags", "least", "matching",
           "moves", "netchecks", "nets", "nettext", "pairs", "pasts", "questions", "runs", "session", "spans", "termrows",
           "validation", "wishes", "wiring"]


def definitions(module):
    """What is defined at the top of a file, by its name."""
    path = os.path.join(ROOT, "toldpast", module + ".py")
    with open(path, encoding="utf-8") as file:
        tree = ast.parse(file.read())
    return {node.name: node for node in tree.body if isinstance(node, (ast.FunctionDef, ast.ClassDef))}


class TestInterface(unittest.TestCase):

    def test_functions(self):
        for module, functions in FUNCTIONS.items():
            found = importlib.import_module("toldpast." + module)
            for name, signature in functions.items():
                self.assertIsInstance(definitions(module)[name], ast.FunctionDef)
                self.assertEqual(signature, str(inspect.signature(getattr(found, name))), name)

    def test_methods_stand_in_their_own_class(self):
        for module, classes in METHODS.items():
            found = importlib.import_module("toldpast." + module)
            for name, methods in classes.items():
                node = definitions(module)[name]
                defined = [inner.name for inner in node.body if isinstance(inner, ast.FunctionDef)]
                for method, signature in methods.items():
                    self.assertIn(method, defined)
                    self.assertEqual(signature, str(inspect.signature(getattr(getattr(found, name), method))), method)

    def test_properties(self):
        for module, classes in PROPERTIES.items():
            found = importlib.import_module("toldpast." + module)
            for name, properties in classes.items():
                for word in properties:
                    self.assertIsInstance(vars(getattr(found, name))[word], property)

    def test_generators(self):
        for module, functions in FUNCTIONS.items():
            found = importlib.import_module("toldpast." + module)
            for name in functions:
                expected = name in ("turns", "stages")
                self.assertIs(expected, inspect.isgeneratorfunction(getattr(found, name)), name)

    def test_the_package_holds_an_init_and_the_modules(self):
        found = [name for name in os.listdir(os.path.join(ROOT, "toldpast")) if name != "__pycache__"]
        self.assertEqual(sorted(["__init__.py"] + [name + ".py" for name in MODULES]), sorted(found))


if __name__ == "__main__":
    unittest.main()
