"""[21], [24] to [27] for books of 4,000 rows, whose terms are too deep and too large to be walked through."""

import sys
import unittest

from helpers import chain_rows, limit_seconds
from toldpast.books import Book, same_term
from toldpast.errors import InvalidString, TooLong, UnknownSymbol

COUNT = 4000
LAST = COUNT - 1


class TestChain(unittest.TestCase):

    def setUp(self):
        self.limit = sys.getrecursionlimit()
        sys.setrecursionlimit(500)
        limit_seconds(self, 60)

    def tearDown(self):
        sys.setrecursionlimit(self.limit)

    def books(self):
        """A chain for each number of arguments, with that number."""
        for width in (1, 2, 3):
            yield width, Book(chain_rows("f", width, COUNT))

    def test_rows_one_by_one(self):
        for width, book in self.books():
            made = Book()
            number = made.constant("a")
            for _ in range(LAST):
                number = made.apply("f", [number] * width)
            self.assertEqual((LAST, COUNT), (number, len(made)))
            self.assertTrue(made == book)
            self.assertTrue(made.copied() == book)
            self.assertEqual(("f", (LAST - 1,) * width), book[LAST])
            self.assertTrue(("f", [LAST - 1] * width) in book)
            self.assertFalse(("f", [LAST] * width) in book)

    def test_parts_size_and_depth(self):
        for width, book in self.books():
            self.assertEqual(list(range(COUNT)), book.parts(LAST))
            self.assertEqual(COUNT, book.depth(LAST))
            sizes, size = [], 0
            for _ in range(COUNT):
                size = 1 + width * size
                sizes.append(size)
            self.assertEqual(sizes, [book.size(number) for number in range(COUNT)])
            self.assertEqual(list(range(1, COUNT + 1)), [book.depth(number) for number in range(COUNT)])

    def test_texts_are_refused_without_being_written(self):
        for width, book in self.books():
            refused = []
            for number in range(COUNT):
                try:
                    book.text(number)
                except TooLong as error:
                    refused.append(error.number)
            shorter = {1: 134, 2: 7, 3: 5}[width]
            self.assertEqual(list(range(shorter, COUNT)), refused)
            self.assertLessEqual(len(book.text(shorter - 1)), 400)

    def test_read_and_refused_strings(self):
        for width, book in self.books():
            text = book.text(4)
            self.assertEqual(4, book.read(text))
            self.assertRaises(InvalidString, book.read, "f(" * 4000)
            self.assertEqual(COUNT, len(book))

    def test_evaluate(self):
        for width, book in self.books():
            calls = []
            meaning = {"a": lambda items: 1, "f": lambda items: calls.append(0) or sum(items) - 1}
            value = 1
            for _ in range(LAST):
                value = value * width - 1
            self.assertEqual(value, book.evaluate(LAST, meaning))
            self.assertEqual(LAST, len(calls))
            with self.assertRaises(UnknownSymbol):
                book.evaluate(LAST, {"f": lambda items: self.fail("called")})

    def test_carry(self):
        for width, other in self.books():
            book = Book()
            self.assertEqual(LAST, book.carry(other, LAST))
            self.assertTrue(book == other)
            self.assertEqual(LAST, book.carry(other, LAST))
            self.assertEqual(LAST, book.carry(book, LAST))
            self.assertEqual(COUNT, len(book))
            shifted = Book([("z", ())])
            self.assertEqual(COUNT, shifted.carry(other, LAST))
            self.assertTrue(same_term(shifted, COUNT, other, LAST))

    def test_differ(self):
        # Two chains that are equal but for the constants at their ends.
        for width in (1, 2, 3):
            half = COUNT // 2
            rows = [("a", ()), ("b", ())]
            for number in range(2, COUNT):
                rows.append(("f", (number - 2,) * width))
            book = Book(rows)
            self.assertEqual([0] * (half - 1), book.differ(LAST - 1, LAST))
            self.assertEqual([0] * (half - 2), book.differ(LAST - 1, LAST - 2))
            self.assertEqual([0] * (half - 2), book.differ(LAST, LAST - 3))

    def test_differ_with_many_ways_to_one_pair(self):
        # Each level leads to the pair below by its second and its third slot, after an equal first one.
        rows = [("c", ()), ("a", ()), ("b", ())]
        while len(rows) < COUNT - 1:
            below = len(rows) - 2
            rows.append(("f", (0, below, below)))
            rows.append(("f", (0, below + 1, below + 1)))
        book = Book(rows)
        last = len(book) - 1
        self.assertEqual([1] * ((last - 1) // 2), book.differ(last - 1, last))

    def test_same_term(self):
        for width, book in self.books():
            rows = [("z", ()), ("a", ())] + [("f", (n,) * width) for n in range(1, COUNT - 1)]
            other = Book(rows)
            self.assertIs(True, same_term(book, LAST - 1, other, LAST))
            self.assertIs(False, same_term(book, LAST, other, LAST))
            self.assertIs(False, same_term(book, LAST - 2, other, LAST))
            unlike = Book([("b", ())] + [("f", (n,) * width) for n in range(LAST)])
            self.assertIs(False, same_term(book, LAST, unlike, LAST))
            self.assertIs(True, same_term(book, LAST, book, LAST))
            self.assertIs(False, same_term(book, LAST, book, LAST - 1))


if __name__ == "__main__":
    unittest.main()
