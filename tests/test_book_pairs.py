"""[27]: terms carried from book to book, and terms compared."""

import random
import unittest

from helpers import any_values, check_raises, check_refused, tree_of
from toldpast.books import Book, same_term
from toldpast.errors import InvalidBook, UnknownTerm

NO_NUMBERS = [None, True, False, -1, 99, "0", [0], (0,), {}, Book([("a", ())])]


def some_rows(seed, count):
    """Rows of every kind, which are the same at each call with one seed."""
    chosen = random.Random(seed)
    rows = []
    while len(rows) < count:
        many = chosen.randrange(4) if rows else 0
        row = (chosen.choice("abf"), tuple(chosen.randrange(len(rows)) for _ in range(many)))
        if chosen.randrange(5) == 0:
            row = (chosen.choice("xa"), chosen.randrange(3))
        if row not in rows:
            rows.append(row)
    return rows


def parting_slots(one, other):
    """What [27] says of two trees, told level by level in another way than the package tells it."""
    slots = []
    while isinstance(one[1], tuple) and isinstance(other[1], tuple) and one[0] == other[0] and len(one[1]) == len(other[1]):
        slot = [a == b for a, b in zip(one[1], other[1])].index(False)
        slots.append(slot)
        one, other = one[1][slot], other[1][slot]
    return slots


class TestCarry(unittest.TestCase):

    def test_document(self):
        book = Book([("a", ()), ("f", (0, 0)), ("x", 3), ("f", (1, 2)), ("b", ()), ("g", (4,))])
        other = Book([("b", ()), ("a", ()), ("f", (1, 1)), ("f", (2, 0))])
        told = [book.carry(other, 3), book.differ(3, 6), book.differ(0, 1), same_term(book, 1, other, 2)]
        self.assertEqual([6, [1], [], True], told)
        self.assertEqual([("f", (1, 4))], book.rows()[6:])

    def test_parts_are_added_in_the_order_of_the_other_book(self):
        other = Book([("c", ()), ("b", ()), ("x", 4), ("a", ()), ("g", (2,)), ("f", (4, 3, 1)), ("h", (5,))])
        book = Book([("z", ()), ("a", ())])
        self.assertEqual(5, book.carry(other, 5))
        self.assertEqual([("b", ()), ("x", 4), ("g", (3,)), ("f", (4, 1, 2))], book.rows()[2:])
        self.assertEqual(5, book.carry(other, 5))
        self.assertEqual([4, 1, 6, 7], [book.carry(other, n) for n in (4, 3, 6, 0)])
        self.assertEqual([("h", (5,)), ("c", ())], book.rows()[6:])

    def test_the_other_book_is_not_changed(self):
        other = Book(some_rows(1, 30))
        before = other.rows()
        Book([("f", 0)]).carry(other, 29)
        self.assertEqual(before, other.rows())

    def test_the_other_book_may_be_this_one(self):
        book = Book(some_rows(2, 30))
        before = book.rows()
        self.assertEqual(list(range(30)), [book.carry(book, n) for n in range(30)])
        self.assertEqual(before, book.rows())

    def test_the_term_stays_the_same(self):
        for seed in range(20):
            other = Book(some_rows(seed, 12))
            for number in range(12):
                book = Book(some_rows(seed + 100, 8))
                before = book.rows()
                carried = book.carry(other, number)
                self.assertEqual(tree_of(other, number), tree_of(book, carried))
                self.assertEqual(before, book.rows()[:8])
                new = [tree_of(other, n) for n in other.parts(number)]
                new = [tree for tree in new if tree not in [tree_of(book, n) for n in range(8)]]
                self.assertEqual(new, [tree_of(book, n) for n in range(8, len(book))])
                self.assertEqual(book.size(carried), other.size(number))

    def test_later_changes_have_no_effect(self):
        other = Book([("a", ())])
        book = Book()
        book.carry(other, 0)
        other.constant("b")
        self.assertEqual([("a", ())], book.rows())

    def test_by_name(self):
        self.assertEqual(0, Book().carry(number=1, other=Book([("a", ()), ("b", ())])))

    def test_no_book(self):
        book = Book([("a", ())])
        for other in any_values():
            if not isinstance(other, Book):
                for number in (0, 5, None):
                    check_refused(self, book, InvalidBook, {"value": other}, book.carry, other, number)

    def test_no_number_of_the_other_book(self):
        book, other = Book(some_rows(3, 9)), Book([("q", ()), ("r", ())])
        for number in NO_NUMBERS + [2, 8]:
            check_refused(self, book, UnknownTerm, {"number": number}, book.carry, other, number)
        check_refused(self, book, UnknownTerm, {"number": 0}, book.carry, Book(), 0)


class TestDiffer(unittest.TestCase):

    def test_equal_numbers(self):
        book = Book(some_rows(4, 10))
        self.assertEqual([None] * 10, [book.differ(n, n) for n in range(10)])

    def test_terms_that_part_at_once(self):
        book = Book([("a", ()), ("b", ()), ("a", 0), ("a", 1), ("f", (0,)), ("g", (0,)), ("f", (0, 0)), ("x", 0), ("f", ())])
        for one in range(len(book)):
            for other in range(len(book)):
                self.assertEqual(None if one == other else [], book.differ(one, other))

    def test_the_first_unlike_slot_at_each_level(self):
        book = Book([("a", ()), ("b", ()), ("f", (0, 0, 0)), ("f", (0, 1, 1)), ("f", (1, 0, 0)), ("f", (0, 0, 1)),
                     ("g", (2, 3)), ("g", (2, 5)), ("h", (6,)), ("h", (7,)), ("g", (6, 3)), ("x", 1), ("h", (11,))])
        pairs = [(2, 3, [1]), (2, 4, [0]), (2, 5, [2]), (3, 5, [1]), (6, 7, [1, 1]), (8, 9, [0, 1, 1]), (6, 10, [0]),
                 (2, 6, []), (8, 12, [0]), (9, 12, [0]), (7, 10, [0])]
        for one, other, slots in pairs:
            self.assertEqual(slots, book.differ(one, other))
            self.assertEqual(slots, book.differ(other, one))

    def test_against_trees(self):
        for seed in range(30):
            book = Book(some_rows(seed, 14))
            trees = [tree_of(book, number) for number in range(14)]
            for one in range(14):
                for other in range(14):
                    expected = None if one == other else parting_slots(trees[one], trees[other])
                    self.assertEqual(expected, book.differ(one, other))

    def test_new_lists(self):
        book = Book([("a", ()), ("b", ()), ("f", (0,)), ("f", (1,))])
        book.differ(2, 3).append(7)
        self.assertEqual([0], book.differ(2, 3))

    def test_by_name(self):
        self.assertEqual([], Book([("a", ()), ("b", ())]).differ(other=1, one=0))

    def test_no_number_of_a_row(self):
        book = Book([("a", ()), ("f", (0,))])
        for number in NO_NUMBERS + [2]:
            for second in (0, 1, 99, None, number):
                check_refused(self, book, UnknownTerm, {"number": number}, book.differ, number, second)
            check_refused(self, book, UnknownTerm, {"number": number}, book.differ, 0, number)
        check_refused(self, Book(), UnknownTerm, {"number": 0}, Book().differ, 0, 0)


class TestSameTerm(unittest.TestCase):

    def test_against_trees(self):
        for seed in range(30):
            one, other = Book(some_rows(seed, 12)), Book(some_rows(seed + 1, 12))
            before = [one.rows(), other.rows()]
            for n in range(12):
                for k in range(12):
                    self.assertIs(tree_of(one, n) == tree_of(other, k), same_term(one, n, other, k))
                    self.assertIs(n == k, same_term(one, n, one, k))
                    self.assertIs(n == k, same_term(one, n, one.copied(), k))
            self.assertEqual(before, [one.rows(), other.rows()])

    def test_terms_with_other_numbers(self):
        one = Book([("a", ()), ("x", 2), ("f", (0, 1)), ("g", (2, 2))])
        other = Book([("z", ()), ("x", 2), ("f", (1, 1)), ("a", ()), ("f", (3, 1)), ("g", (4, 4)), ("g", (4, 2))])
        self.assertEqual([(0, 3), (1, 1), (2, 4), (3, 5)],
                         [(n, k) for n in range(4) for k in range(7) if same_term(one, n, other, k)])

    def test_a_part_that_is_missing_in_the_other_book(self):
        one, other = Book([("a", ()), ("f", (0,))]), Book([("b", ()), ("f", (0,))])
        self.assertIs(False, same_term(one, 1, other, 1))
        self.assertIs(False, same_term(one, 0, other, 0))
        self.assertEqual(([("a", ()), ("f", (0,))], [("b", ()), ("f", (0,))]), (one.rows(), other.rows()))

    def test_by_name(self):
        book = Book([("a", ())])
        self.assertIs(True, same_term(other_number=0, other=Book([("a", ())]), number=0, book=book))

    def test_wrong_arguments_in_their_order(self):
        book, other = Book([("a", ())]), Book([("b", ()), ("a", ())])
        for value in any_values():
            if not isinstance(value, Book):
                for rest in ((0, other, 0), (9, other, 0), (0, None, 9), (None, 5, None)):
                    check_raises(self, InvalidBook, {"value": value}, same_term, value, *rest)
                for last in (0, 9, None):
                    check_raises(self, InvalidBook, {"value": value}, same_term, book, 0, value, last)
        for number in NO_NUMBERS + [1]:
            for rest in ((other, 0), (None, 0), (other, 9), (5, 9)):
                check_refused(self, book, UnknownTerm, {"number": number}, same_term, book, number, *rest)
        for number in NO_NUMBERS + [2]:
            check_refused(self, other, UnknownTerm, {"number": number}, same_term, book, 0, other, number)


if __name__ == "__main__":
    unittest.main()
