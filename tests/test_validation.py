"""[12], [13]: integers, names, lists, term rows and words."""

import unittest

from helpers import HUGE, any_values
from toldpast.books import Book
from toldpast.validation import is_integer, is_list, is_name, is_terms, parse_integer, split_words


class TestIsInteger(unittest.TestCase):

    def test_the_first_and_the_last_that_are_accepted(self):
        self.assertEqual([False, True, True, True, False], [is_integer(n, 3, 5) for n in range(2, 7)])
        self.assertEqual([False, True, False], [is_integer(n, -4, -4) for n in (-5, -4, -3)])
        self.assertEqual([False, True, True], [is_integer(n, 0, HUGE) for n in (-1, 0, HUGE)])
        self.assertIs(False, is_integer(HUGE, 0, HUGE - 1))

    def test_a_range_without_integers(self):
        self.assertEqual([False] * 3, [is_integer(n, 5, 4) for n in (4, 5, 6)])

    def test_true_and_false_are_no_integers(self):
        self.assertEqual([False, False], [is_integer(True, 0, 9), is_integer(False, 0, 9)])
        self.assertEqual([True, True], [is_integer(1, 0, 9), is_integer(0, 0, 9)])

    def test_any_value(self):
        for value in any_values():
            expected = isinstance(value, int) and value is not True and value is not False
            self.assertIs(expected, is_integer(value, -HUGE, HUGE), value)

    def test_by_name(self):
        self.assertIs(True, is_integer(high=2, low=2, value=2))


class TestIsName(unittest.TestCase):

    def test_lengths(self):
        self.assertEqual([False, True, True, False], [is_name("a" * n) for n in (0, 1, 8, 9)])

    def test_every_character_first_and_later(self):
        letters = "abcdefghijklmnopqrstuvwxyz"
        for code in range(256):
            character = chr(code)
            self.assertIs(character in letters, is_name(character), code)
            self.assertIs(character in letters, is_name(character + "9"), code)
            self.assertIs(character in letters + "0123456789", is_name("a" + character), code)
            self.assertIs(character in letters + "0123456789", is_name("abcdefg" + character), code)

    def test_document(self):
        self.assertEqual([True, False], [is_name("x1"), is_name("1x")])

    def test_any_value(self):
        for value in any_values():
            self.assertIs(value in ("a", "x1") and isinstance(value, str), is_name(value), value)

    def test_lists_of_characters_are_no_names(self):
        self.assertEqual([False] * 3, [is_name(["a"]), is_name(("a", "b")), is_name({"a": 1})])

    def test_by_name(self):
        self.assertIs(True, is_name(value="a"))


class TestIsList(unittest.TestCase):

    def test_lists_and_tuples(self):
        self.assertEqual([True] * 5, [is_list(v) for v in ([], (), [1], ("a", []), [None] * 200)])

    def test_any_value(self):
        for value in any_values():
            self.assertIs(value.__class__ in (list, tuple), is_list(value), value)

    def test_by_name(self):
        self.assertIs(True, is_list(value=[]))


class TestIsTerms(unittest.TestCase):

    def test_document(self):
        self.assertIs(True, is_terms([("a", []), ("f", (0, 0))]))
        self.assertIs(False, is_terms([("f", (0,))]))

    def test_empty_and_many(self):
        self.assertEqual([True, True], [is_terms([]), is_terms(())])
        rows = [("a", ())] + [("f", (n, n, n)) for n in range(3999)]
        self.assertIs(True, is_terms(rows))
        self.assertIs(False, is_terms(rows + [("f", (4000,))]))

    def test_equal_rows_may_occur(self):
        self.assertIs(True, is_terms([("a", ()), ("a", ()), ("f", (0,)), ("f", (0,))]))

    def test_lists_and_tuples_stand_for_each_other(self):
        for rows in ([["a", []], ["f", [0]]], (("a", ()), ("f", (0,))), [("a", []), ["f", (0,)]]):
            self.assertIs(True, is_terms(rows))

    def test_numbers_of_arguments(self):
        for many in range(6):
            self.assertIs(many <= 3, is_terms([("a", ()), ("f", (0,) * many)]), many)

    def test_arguments_are_earlier_rows(self):
        for number in (-1, 0, 1, 2, 3, HUGE):
            rows = [("a", ()), ("b", ()), ("f", (0, number)), ("g", ())]
            self.assertIs(number in (0, 1), is_terms(rows), number)

    def test_arguments_are_integers(self):
        for number in (True, False, None, "0", [0], (), {}):
            self.assertIs(False, is_terms([("a", ()), ("b", ()), ("f", (number,))]), number)

    def test_items_of_a_wrong_form(self):
        wrong = [None, 1, "a", "ab", {}, (), ("a",), ("a", (), ()), ("a", None), ("a", 0), ("a", "b"), ("a", {}),
                 ("", ()), ("A", ()), ("1a", ()), ("abcdefghi", ()), (None, ()), (["a"], ()), (1, ()), Book()]
        for item in wrong:
            self.assertIs(False, is_terms([("a", ()), item]), item)
            self.assertIs(False, is_terms([item, ("a", ())]), item)

    def test_any_value(self):
        for value in any_values():
            expected = value in ([], (), [("a", ())]) and isinstance(value, (list, tuple))
            self.assertIs(expected, is_terms(value), value)

    def test_nothing_is_changed(self):
        rows = [["a", []], ["f", [0, 0]]]
        is_terms(rows)
        self.assertEqual([["a", []], ["f", [0, 0]]], rows)

    def test_by_name(self):
        self.assertIs(True, is_terms(value=[("a", ())]))


class TestParseInteger(unittest.TestCase):

    def test_document(self):
        self.assertEqual([None, None], [parse_integer("07"), parse_integer("39", high=38)])

    def test_ordinary(self):
        self.assertEqual([0, 7, 10, 120, 999999], [parse_integer(t) for t in ("0", "7", "10", "120", "999999")])
        for number in range(0, 1200):
            self.assertEqual(number, parse_integer(str(number)))

    def test_leading_zeros(self):
        self.assertEqual([None] * 4, [parse_integer(t) for t in ("00", "01", "007", "0" * 30)])

    def test_bounds(self):
        self.assertIs(None, parse_integer("1000000"))
        self.assertEqual([None, 5, 6, None], [parse_integer(t, low=5, high=6) for t in "4567"])
        self.assertEqual([0, None], [parse_integer(t, low=-3, high=0) for t in "01"])
        self.assertEqual([None, None], [parse_integer(t, low=5, high=4) for t in "45"])
        self.assertEqual([None, None], [parse_integer("0", low=1), parse_integer("0", high=-1)])
        self.assertEqual(1000000, parse_integer("1000000", high=1000000))

    def test_thirty_digits(self):
        self.assertEqual(HUGE, parse_integer("9" * 30, high=10 ** 40))
        self.assertIs(None, parse_integer("9" * 31, high=10 ** 40))
        self.assertIs(None, parse_integer("9" * 4000, high=10 ** 40))

    def test_wrong_characters(self):
        for text in ("", " ", "-", "-1", "+1", " 1", "1 ", "1\n", "\n1", "1_0", "1.0", "1e3", "0x1", "a", "1a", "--1"):
            self.assertIs(None, parse_integer(text, low=-99), text)
        for code in range(256):
            digit = "0" <= chr(code) <= "9"
            self.assertIs(digit, parse_integer("1" + chr(code)) is not None, code)
        self.assertEqual([None, None], [parse_integer("\u0663"), parse_integer("\u00b2")])

    def test_any_value(self):
        for value in any_values():
            self.assertIs(None, parse_integer(value), value)
        self.assertEqual([None, None, None], [parse_integer(v) for v in (["1"], ("1",), {"1": 1})])

    def test_by_name_and_only_by_name(self):
        self.assertEqual(3, parse_integer(text="3", low=3, high=3))
        self.assertRaises(TypeError, parse_integer, "3", 0)
        self.assertRaises(TypeError, parse_integer, "3", 0, 9)


class TestSplitWords(unittest.TestCase):

    def test_document(self):
        self.assertEqual(["a b", "c"], split_words("a b:c", separator=":"))
        self.assertIs(None, split_words("a  b"))

    def test_ordinary(self):
        self.assertEqual(["a"], split_words("a"))
        self.assertEqual(["gate", "g", "f", "x:0,1"], split_words("gate g f x:0,1"))
        self.assertEqual(["0", "1"], split_words("0,1", separator=","))

    def test_separators_at_an_end(self):
        for text in ("", " ", "  ", " a", "a ", " a b", "a b ", "a  b", "a   b"):
            self.assertIs(None, split_words(text), text)
        for text in (":", ":a", "a:", "a::b"):
            self.assertIs(None, split_words(text, separator=":"), text)

    def test_a_space_is_ordinary_beside_another_separator(self):
        self.assertEqual([" a ", " ", "b  b"], split_words(" a : :b  b", separator=":"))
        self.assertEqual([" "], split_words(" ", separator=":"))
        self.assertEqual(["a:b", ":"], split_words("a:b :"))

    def test_line_feeds(self):
        for text in ("\n", "a\n", "\na", "a\nb", "a b\nc", "a \n b"):
            self.assertIs(None, split_words(text), text)
            self.assertIs(None, split_words(text, separator=":"), text)

    def test_separators_that_are_signs(self):
        for separator in ".*+?|^$()[]{}\\-'\"":
            self.assertEqual(["a", "b"], split_words("a" + separator + "b", separator=separator))

    def test_four_thousand_characters(self):
        self.assertEqual(["a"] * 2000 + ["b"], split_words("a " * 2000 + "b"))
        self.assertEqual(["a" * 4000], split_words("a" * 4000))

    def test_any_value(self):
        for value in any_values():
            expected = [value] if value in ("a", "x1", "f(a)", "x@3", "~" * 200) else None
            self.assertEqual(expected if isinstance(value, str) else None, split_words(value), value)
        self.assertEqual([None, None], [split_words(["a"]), split_words(("a", "b"))])

    def test_new_lists(self):
        words = split_words("a b")
        words.append("c")
        self.assertEqual(["a", "b"], split_words("a b"))

    def test_by_name_and_only_by_name(self):
        self.assertEqual(["a", "b"], split_words(separator="-", text="a-b"))
        self.assertRaises(TypeError, split_words, "a b", " ")


if __name__ == "__main__":
    unittest.main()
