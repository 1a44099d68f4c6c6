"""[26]: the values of terms."""

import unittest

from helpers import any_values, check_raises, check_refused
from toldpast.books import Book
from toldpast.errors import InvalidMeaning, InvalidValues, UnknownSample, UnknownSymbol, UnknownTerm

ROWS = [("a", ()), ("x", 1), ("f", (0, 1)), ("b", ()), ("g", (2,)), ("f", (4, 2)), ("y", 0), ("h", (5, 6, 5))]


class Watch:
    """A meaning whose functions write down the calls that they get."""

    def __init__(self, names):
        self.calls = []
        self.meaning = {name: self.function(name) for name in names}

    def function(self, name):
        def called(items):
            assert items.__class__ is list
            self.calls.append((name, list(items)))
            return (name, tuple(items))
        return called


class TestEvaluate(unittest.TestCase):

    def test_document(self):
        book = Book([("a", ()), ("f", (0, 0)), ("x", 3), ("f", (1, 2))])
        meaning = {"a": lambda items: 2, "f": lambda items: items[0] * 10 + items[1]}
        self.assertEqual(228, book.evaluate(3, meaning, samples={"x": [5, 6, 7, 8]}))

    def test_each_function_is_called_once_in_the_order_of_the_parts(self):
        book = Book(ROWS)
        watch = Watch("afbgh")
        value = book.evaluate(7, watch.meaning, samples={"x": [None, 10], "y": [20]})
        a, f = ("a", ()), ("f", (("a", ()), 10))
        g = ("g", (f,))
        top = ("f", (g, f))
        calls = [("a", []), ("f", [a, 10]), ("g", [f]), ("f", [g, f]), ("h", [top, 20, top])]
        self.assertEqual(calls, watch.calls)
        self.assertEqual(("h", (top, 20, top)), value)

    def test_only_the_parts_of_the_term_are_asked(self):
        book = Book(ROWS)
        watch = Watch("b")
        self.assertEqual(("b", ()), book.evaluate(3, watch.meaning))
        self.assertEqual([("b", [])], watch.calls)
        watch = Watch("af")
        self.assertEqual(("f", (("a", ()), 10)), book.evaluate(2, watch.meaning, samples={"x": [9, 10]}))

    def test_a_sample_needs_no_function(self):
        book = Book(ROWS)
        self.assertEqual(4, book.evaluate(1, {}, samples={"x": [3, 4], "z": []}))
        self.assertEqual(5, book.evaluate(6, {"y": None}, samples={"y": (5,)}))

    def test_values_of_any_kind_are_passed_on_as_they_are(self):
        book = Book([("x", 0), ("a", ()), ("f", (0, 1)), ("f", (2, 2))])
        for value in any_values() + [0, "", [], {}, False, None]:
            seen = []
            meaning = {"a": lambda items: value, "f": lambda items: seen.append(items) or items[1]}
            self.assertIs(value, book.evaluate(0, {}, samples={"x": [value]}))
            self.assertIs(value, book.evaluate(1, meaning))
            self.assertIs(value, book.evaluate(3, meaning, samples={"x": [value, 1]}))
            self.assertEqual([2, 2], [len(items) for items in seen])
            self.assertTrue(all(item is value for items in seen for item in items))

    def test_values_that_are_not_true_are_called_for_once(self):
        for value in (None, False, 0, "", [], ()):
            calls = []
            meaning = {"a": lambda items: calls.append(items) or value, "f": lambda items: items}
            result = Book([("a", ()), ("f", (0, 0, 0))]).evaluate(1, meaning)
            self.assertEqual([[]], calls)
            self.assertEqual(3, len(result))

    def test_each_call_gets_a_list_of_its_own(self):
        book = Book([("a", ()), ("b", ()), ("f", (0, 1)), ("g", (0, 1)), ("h", (2, 3, 0))])

        def greedy(items):
            told = list(items)
            items.clear()
            return told
        meaning = {"a": lambda items: 1, "b": lambda items: 2, "f": greedy, "g": greedy, "h": greedy}
        self.assertEqual([[1, 2], [1, 2], 1], book.evaluate(4, meaning))

    def test_one_name_with_two_numbers_of_arguments(self):
        book = Book([("f", ()), ("f", (0,)), ("f", (0, 1)), ("f", 0), ("f", (2, 3, 1))])
        self.assertEqual([[[], [[]]], 7, [[]]], book.evaluate(4, {"f": lambda items: items}, samples={"f": [7]}))

    def test_what_is_passed_is_not_changed(self):
        book, samples = Book(ROWS), {"x": [1, 2], "y": [3]}
        meaning = Watch("afbgh").meaning
        before = dict(meaning)
        book.evaluate(7, meaning, samples=samples)
        self.assertEqual(({"x": [1, 2], "y": [3]}, before, ROWS), (samples, meaning, book.rows()))

    def test_by_name(self):
        book = Book([("a", ()), ("f", (0,)), ("x", 0)])
        meaning = {"a": lambda items: 1, "f": lambda items: items[0] + 1}
        self.assertEqual(2, book.evaluate(meaning=meaning, number=1))
        self.assertEqual(2, book.evaluate(samples=None, meaning=meaning, number=1))
        self.assertRaises(TypeError, book.evaluate, 2, meaning, {"x": [1]})

    def test_a_function_may_ask_the_book(self):
        book = Book([("a", ()), ("f", (0,))])
        meaning = {"a": lambda items: book.read("new(b,x@1)"), "f": lambda items: book.text(items[0])}
        self.assertEqual("new(b,x@1)", book.evaluate(1, meaning))


class TestWrong(unittest.TestCase):

    def setUp(self):
        self.book = Book(ROWS)

    def test_no_number_of_a_row(self):
        for number in [None, True, False, -1, 8, "0", [0], (0,), {}, self.book]:
            for meaning, samples in [({}, None), (None, None), ({}, 5), (5, 5)]:
                check_refused(self, self.book, UnknownTerm, {"number": number},
                              self.book.evaluate, number, meaning, samples=samples)

    def test_no_meaning(self):
        for meaning in any_values():
            if not isinstance(meaning, dict):
                for samples in (None, {}, 5, {"x": 5}):
                    check_raises(self, InvalidMeaning, {"value": meaning},
                                 self.book.evaluate, 7, meaning, samples=samples)

    def test_no_samples(self):
        watch = Watch("afbgh")
        wrong = [v for v in any_values() if v is not None and not isinstance(v, dict)]
        wrong = wrong + [{"x": 5}, {"x": [1, 2], "y": None}, {"x": {0: 1}}, {"x": "12"}, {"z": True, "x": [1, 2]}, {1: 2}]
        for samples in wrong:
            for number, meaning in [(7, watch.meaning), (7, {}), (0, watch.meaning), (3, {})]:
                check_raises(self, InvalidValues, {"value": samples},
                             self.book.evaluate, number, meaning, samples=samples)
        self.assertEqual([], watch.calls)

    def test_the_first_part_without_a_meaning_is_told(self):
        for names, samples, error, fields in [
                ("", None, UnknownSymbol, {"name": "a"}),
                ("a", None, UnknownSample, {"name": "x", "index": 1}),
                ("a", {}, UnknownSample, {"name": "x", "index": 1}),
                ("a", {"x": []}, UnknownSample, {"name": "x", "index": 1}),
                ("a", {"x": [5], "y": [1, 2]}, UnknownSample, {"name": "x", "index": 1}),
                ("a", {"x": [5, 6]}, UnknownSymbol, {"name": "f"}),
                ("af", {"x": [5, 6]}, UnknownSymbol, {"name": "g"}),
                ("afg", {"x": [5, 6]}, UnknownSample, {"name": "y", "index": 0}),
                ("afg", {"x": [5, 6], "y": ()}, UnknownSample, {"name": "y", "index": 0}),
                ("afg", {"x": [5, 6], "y": (1,)}, UnknownSymbol, {"name": "h"})]:
            watch = Watch(names)
            with self.assertRaises(error) as caught:
                self.book.evaluate(7, watch.meaning, samples=samples)
            self.assertEqual(fields, vars(caught.exception))
            self.assertEqual([], watch.calls)

    def test_what_is_no_part_may_be_missing(self):
        watch = Watch("afgh")
        self.book.evaluate(7, watch.meaning, samples={"x": [5, 6], "y": [1]})
        self.assertEqual(5, len(watch.calls))

    def test_names_of_symbols_are_no_names_of_samples(self):
        book = Book([("a", ()), ("a", 0)])
        with self.assertRaises(UnknownSample) as caught:
            book.evaluate(1, {"a": lambda items: 1}, samples={"b": [1]})
        self.assertEqual({"name": "a", "index": 0}, vars(caught.exception))
        with self.assertRaises(UnknownSymbol) as caught:
            book.evaluate(0, {"b": lambda items: 1}, samples={"a": [1]})
        self.assertEqual({"name": "a"}, vars(caught.exception))

    def test_great_turns(self):
        book = Book([("x", 10 ** 29)])
        with self.assertRaises(UnknownSample) as caught:
            book.evaluate(0, {}, samples={"x": [1] * 200})
        self.assertEqual({"name": "x", "index": 10 ** 29}, vars(caught.exception))

    def test_a_value_none_in_the_samples_is_a_value(self):
        self.assertIs(None, self.book.evaluate(1, {}, samples={"x": [1, None]}))


if __name__ == "__main__":
    unittest.main()
