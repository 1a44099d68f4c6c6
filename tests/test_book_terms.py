"""[24], [25]: parts, size and depth of terms, and terms as texts."""

import inspect
import sys
import unittest

from helpers import HUGE, any_values, check_refused, tree_of
from toldpast.books import Book
from toldpast.errors import InvalidString, TooLong, UnknownTerm

ROWS = [("a", ()), ("b", ()), ("f", (0, 1)), ("x", 3), ("g", (2,)), ("f", (4, 2)), ("h", (3, 5, 3)), ("c", ()),
        ("k", (6, 6, 7)), ("x", 0)]


def tree_parts(tree):
    """All terms in a tree, written in full."""
    found = [tree]
    if isinstance(tree[1], tuple):
        for inner in tree[1]:
            found = found + tree_parts(inner)
    return found


def tree_depth(tree):
    if not isinstance(tree[1], tuple):
        return 1
    return 1 + max([tree_depth(inner) for inner in tree[1]], default=0)


def tree_text(tree):
    if not isinstance(tree[1], tuple):
        return tree[0] + "@" + str(tree[1])
    return tree[0] + ("(" + ",".join(tree_text(inner) for inner in tree[1]) + ")" if tree[1] else "")


def not_numbers(book):
    """Values that are the number of no row of a book."""
    return [v for v in any_values() + [len(book), -len(book), "0"] if v.__class__ is not int or v not in range(len(book))]


class TestParts(unittest.TestCase):

    def test_document(self):
        book = Book([("a", ()), ("f", (0, 0)), ("x", 3)])
        told = [book.parts(1), book.size(1), book.depth(book.apply("f", [1, 2])), book.parts(3)]
        self.assertEqual([[0, 1], 3, 3, [0, 1, 2, 3]], told)

    def test_parts(self):
        book = Book(ROWS)
        expected = [[0], [1], [0, 1, 2], [3], [0, 1, 2, 4], [0, 1, 2, 4, 5], [0, 1, 2, 3, 4, 5, 6], [7],
                    [0, 1, 2, 3, 4, 5, 6, 7, 8], [9]]
        self.assertEqual(expected, [book.parts(number) for number in range(len(book))])

    def test_size_and_depth_as_written_in_full(self):
        book = Book(ROWS)
        for number in range(len(book)):
            tree = tree_of(book, number)
            self.assertEqual(len(tree_parts(tree)), book.size(number))
            self.assertEqual(tree_depth(tree), book.depth(number))
            self.assertEqual({str(t) for t in tree_parts(tree)}, {str(tree_of(book, n)) for n in book.parts(number)})
        self.assertEqual([1, 1, 3, 1, 4, 8, 11, 1, 24, 1], [book.size(n) for n in range(10)])
        self.assertEqual([1, 1, 2, 1, 3, 4, 5, 1, 6, 1], [book.depth(n) for n in range(10)])

    def test_rows_that_were_added_later(self):
        book = Book(ROWS)
        number = book.apply("z", [8, 9])
        self.assertEqual([[0, 1, 2, 3, 4, 5, 6, 7, 8, 9, 10], 26, 7],
                         [book.parts(number), book.size(number), book.depth(number)])

    def test_new_lists(self):
        book = Book(ROWS)
        parts = book.parts(2)
        parts.clear()
        self.assertEqual([0, 1, 2], book.parts(2))

    def test_by_name(self):
        book = Book(ROWS)
        self.assertEqual([[0, 1, 2], 3, 2], [book.parts(number=2), book.size(number=2), book.depth(number=2)])

    def test_no_number_of_a_row(self):
        for book in (Book(), Book(ROWS)):
            for number in not_numbers(book):
                for call in (book.parts, book.size, book.depth):
                    check_refused(self, book, UnknownTerm, {"number": number}, call, number)


class TestText(unittest.TestCase):

    def test_document(self):
        book = Book([("a", ()), ("f", (0, 0)), ("x", 3), ("f", (1, 2))])
        told = [book.text(3), book.read("f(f(a,a),x@3)"), book.read("g(b)"), book.rows()[4:]]
        self.assertEqual(["f(f(a,a),x@3)", 3, 5, [("b", ()), ("g", (4,))]], told)

    def test_every_row(self):
        book = Book(ROWS)
        for number in range(len(book)):
            self.assertEqual(tree_text(tree_of(book, number)), book.text(number))
        self.assertEqual(["a", "f(a,b)", "x@3", "h(x@3,f(g(f(a,b)),f(a,b)),x@3)", "x@0"],
                         [book.text(n) for n in (0, 2, 3, 6, 9)])

    def test_by_name(self):
        book = Book(ROWS)
        self.assertEqual("f(a,b)", book.text(number=2))
        self.assertEqual(2, book.read(text="f(a,b)"))

    def test_long_turns(self):
        book = Book([("x", HUGE)])
        self.assertEqual("x@" + "9" * 30, book.text(0))

    def test_no_number_of_a_row(self):
        for book in (Book(), Book(ROWS)):
            for number in not_numbers(book):
                check_refused(self, book, UnknownTerm, {"number": number}, book.text, number)

    def test_four_hundred_characters_are_the_most(self):
        for inner, levels, extra in [("a", 133, 0), ("ab", 132, 2), ("x@7", 132, 1)]:
            book = Book()
            text = inner
            number = book.read(inner)
            for _ in range(levels):
                text = "f(" + text + ")"
                number = book.apply("f", [number])
            self.assertEqual(400 - extra, len(text))
            self.assertEqual(text, book.text(number))
            last = book.apply("k" * (1 + extra), [number - 1])
            self.assertEqual(400, len(book.text(last)))
            over = book.apply("k" * (2 + extra), [number - 1])
            check_refused(self, book, TooLong, {"number": over}, book.text, over)

    def test_four_hundred_characters_in_three_arguments(self):
        book = Book()
        deep = book.constant("b")
        for _ in range(32):
            deep = book.apply("f", [deep])
        self.assertEqual(97, len(book.text(deep)))
        wide = book.apply("g", [deep, deep, deep])
        # A symbol of one character, two parentheses and two commas.
        self.assertEqual(5 + 3 * 97, len(book.text(wide)))
        last = book.apply("h", [wide, deep, book.sample("x", 0)])
        check_refused(self, book, TooLong, {"number": last}, book.text, last)
        last = book.apply("h", [wide, deep, book.constant("cc")])
        self.assertEqual(400, len(book.text(last)))
        last = book.apply("h", [book.constant("ccc"), wide, deep])
        check_refused(self, book, TooLong, {"number": last}, book.text, last)

    def test_lengths_beside_a_long_term(self):
        for missing in range(0, 8):
            book = Book()
            deep = book.sample("x", 12345)
            for _ in range(128):
                deep = book.apply("f", [deep])
            # x@12345 has 7 characters, each level 3 more: 391.
            self.assertEqual(391, len(book.text(deep)))
            for name in ("k", "kk", "kkk", "kkkk"):
                one = book.apply(name, [deep, book.constant("a" * (missing + 1))])
                length = 391 + 3 + len(name) + missing + 1
                if length <= 400:
                    self.assertEqual(length, len(book.text(one)))
                else:
                    check_refused(self, book, TooLong, {"number": one}, book.text, one)


class TestRead(unittest.TestCase):

    def test_rows_in_order(self):
        book = Book()
        number = book.read("f(g(b,a),h(x@10),g(b,a,x@10))")
        rows = [("b", ()), ("a", ()), ("g", (0, 1)), ("x", 10), ("h", (3,)), ("g", (0, 1, 3)), ("f", (2, 4, 5))]
        self.assertEqual((6, rows), (number, book.rows()))

    def test_only_new_rows_are_added(self):
        book = Book([("x", 1), ("a", ()), ("g", (1,)), ("a", (0,))])
        self.assertEqual(2, book.read("g(a)"))
        self.assertEqual(3, book.read("a(x@1)"))
        self.assertEqual(1, book.read("a"))
        self.assertEqual(0, book.read("x@1"))
        self.assertEqual(4, len(book))
        self.assertEqual(5, book.read("f(g(a),b,a(x@1))"))
        self.assertEqual([("b", ()), ("f", (2, 4, 3))], book.rows()[4:])

    def test_leaves(self):
        for text, row in [("a", ("a", ())), ("abcdefg9", ("abcdefg9", ())), ("x@0", ("x", 0)), ("a1@10", ("a1", 10)),
                          ("x@999999", ("x", 999999))]:
            book = Book()
            self.assertEqual(0, book.read(text))
            self.assertEqual([row], book.rows())
            self.assertEqual(text, book.text(0))

    def test_read_is_the_inverse_of_text(self):
        book = Book(ROWS)
        for number in range(len(book)):
            self.assertEqual(number, book.read(book.text(number)))
        self.assertEqual(ROWS, book.rows())
        for number in range(len(book)):
            other = Book()
            self.assertEqual(len(book.parts(number)) - 1, other.read(book.text(number)))
            self.assertEqual(tree_of(book, number), tree_of(other, len(other) - 1))

    def test_texts_that_represent_no_term(self):
        wrong = ["", " ", "A", "1", "1a", "a1_", "abcdefghi", "a ", " a", "a\n", "\na", "a\nb", "a b", "a,b", ",", "(", ")",
                 "()", "a(", "a)", "(a", "(a)", "a()", "f(a", "fa)", "f(a))", "f((a)", "f((a))", "f(a)b", "f(a)(b)",
                 "f(a)f(a)", "f(,a)", "f(a,)", "f(a,,b)", "f(a b)", "f(a, b)", "f (a)", "f( a)", "f(a )", "f(\na)",
                 "f(a,\nb)", "f(a)\n", "f(a,b,c,d)", "f(a,b,c,)", "abcdefghi(a)", "F(a)", "1(a)", "f(A)", "f(g())",
                 "f(a),", ",f(a)", "f(a),b", "f(g(a)", "f(g(a),b", "f(a)g", "f[a]", "f{a}", "f(a;b)", "a@b(c)", "x@1(a)",
                 "f(x@1)@2", "f@1(a)", "@", "x@", "@1", "x@@1", "x@1@2", "x@-1", "x@+1", "x@01", "x@00", "x@a", "x@1a",
                 "x@ 1", "x @1", "x@1 ", "x@1000000", "x@0999999", "X@1", "1@1", "abcdefghi@1", "f(x@)", "f(x@1000000)",
                 "f(x@01)", "f(@1)", "x@1,", "-a", "a.b", "...", "f(a)f", "ff(a)(", "f(a,b)(c)", "f(a()),", "f(())",
                 "f(a)g()", "f(a)g(,b)", "f(a)g(b)", "f(g(a)h(b))", "f(g(a)h(b)", "f(g(a)(b)", "f(g(a)h(),b)", "f(a,g(b)h)", "f(x@1g(a))"]
        book = Book(ROWS)
        for text in wrong:
            check_refused(self, book, InvalidString, {"value": text}, book.read, text)

    def test_no_row_of_a_refused_string_is_added(self):
        book = Book()
        for text in ("f(new,x@1", "f(new,x@1))", "f(new,g(x@1),", "f(new,x@01)", "f(a,b,c,d)", "f(new),x@1", "f(a,g())"):
            check_refused(self, book, InvalidString, {"value": text}, book.read, text)
        self.assertEqual([], book.rows())

    def test_any_value(self):
        for value in any_values():
            book = Book(ROWS)
            if isinstance(value, str) and value in ("a", "x1", "f(a)", "x@3"):
                self.assertEqual(value, book.text(book.read(value)))
            else:
                check_refused(self, book, InvalidString, {"value": value}, book.read, value)
        for value in (["a"], ("a",), {"a": 1}, ["f", "(", "a", ")"], 400, [["a"]]):
            check_refused(self, Book(), InvalidString, {"value": value}, Book().read, value)

    def test_four_hundred_characters_are_the_most(self):
        for inner, most in [("a", 133), ("abcd", 132)]:
            text = "f(" * most + inner + ")" * most
            self.assertEqual(400, len(text))
            book = Book()
            self.assertEqual(most, book.read(text))
            self.assertEqual(text, book.text(most))
            for over in (text.replace(inner, inner + "b"), "f" + text, "f(" + text + ")", text + ")", text + " "):
                book = Book([("z", ())])
                check_refused(self, book, InvalidString, {"value": over}, book.read, over)

    def test_long_strings(self):
        book = Book([("z", ())])
        for text in ("a" * 401, "a" * 4000, "f(" * 2000, "(" * 4000, "f(" * 1333 + "a" + ")" * 1333, "x@" + "1" * 4000,
                     "f(a" + ",a" * 1000 + ")", "a" + "\n" * 400, ")" * 5000, "," * 401):
            check_refused(self, book, InvalidString, {"value": text}, book.read, text)

    def test_texts_of_many_levels_need_no_recursion(self):
        limit = sys.getrecursionlimit()
        text = "f(" * 133 + "a" + ")" * 133
        book = Book()
        sys.setrecursionlimit(len(inspect.stack()) + 60)
        try:
            number = book.read(text)
            told = book.text(number)
        finally:
            sys.setrecursionlimit(limit)
        self.assertEqual((133, text), (number, told))

    def test_every_short_string(self):
        expected = short_terms(6)
        found = 0
        for text in short_strings("fx(,)@1", 6):
            book = Book()
            if text in expected:
                self.assertEqual(text, book.text(book.read(text)))
                found += 1
            else:
                self.assertRaises(InvalidString, book.read, text)
                self.assertEqual(0, len(book))
        self.assertEqual(len(expected), found)


def short_strings(characters, most):
    """All strings of some characters, of at most so many."""
    found, last = [""], [""]
    for _ in range(most):
        last = [text + character for text in last for character in characters]
        found = found + last
    return found


def short_terms(most):
    """All terms of at most so many of the characters of the test above, built up from below."""
    names = [t for t in short_strings("fx1", most) if t and t[0] != "1"]
    terms = {n for n in names}
    terms |= {n + "@" + "1" * many for n in names for many in range(1, most) if len(n) + 1 + many <= most}
    grown = True
    while grown:
        small = [t for t in terms if len(t) <= most - 3]
        rows = [(a,) for a in small] + [(a, b) for a in small for b in small]
        made = {n + "(" + ",".join(row) + ")" for n in names for row in rows}
        made = {t for t in made if len(t) <= most}
        grown = not made <= terms
        terms |= made
    return terms


if __name__ == "__main__":
    unittest.main()
