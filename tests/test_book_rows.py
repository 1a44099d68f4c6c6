"""[21], [22], [23]: the rows of a book, how they are added, and what is asked of them."""

import unittest

from helpers import HUGE, any_values, chain_rows, check_raises, check_refused
from toldpast.books import Book
from toldpast.errors import InvalidName, InvalidPart, InvalidRow, InvalidTurn, UnknownTerm

ROWS = [("a", ()), ("x", 3), ("f", (0, 1)), ("a", (0,)), ("x", 0), ("g", (2, 2, 4)), ("x", ())]
NO_NAMES = ["", "A", "1a", "a b", "abcdefghi", "a\n", None, 1, True, ["a"], ("a",), {"a": 1}, Book()]
NO_NUMBERS = [None, True, False, -1, 3, HUGE, -HUGE, "0", "a", [0], (0,), {}, {0: 0}, Book()]


def is_number(value, count):
    """What a number of a row is, told in another way than the package tells it."""
    return value.__class__ is int and value in range(count)


class TestMake(unittest.TestCase):

    def test_empty(self):
        for book in (Book(), Book([]), Book(()), Book(rows=[])):
            self.assertEqual(([], 0), (book.rows(), len(book)))

    def test_rows_in_their_order(self):
        self.assertEqual(ROWS, Book(ROWS).rows())
        self.assertEqual(ROWS, Book(rows=tuple(ROWS)).rows())

    def test_lists_stand_for_tuples(self):
        book = Book([["a", []], ["x", 3], ("f", [0, 1]), ["a", (0,)], ("x", 0), ["g", [2, 2, 4]], ["x", ()]])
        self.assertEqual(ROWS, book.rows())
        self.assertEqual(Book(ROWS), book)
        self.assertTrue(all(row.__class__ is tuple for row in book.rows()))
        self.assertTrue(all(row[1].__class__ in (tuple, int) for row in book.rows()))

    def test_the_caller_may_change_what_was_passed(self):
        rows = [["a", []], ["f", [0, 0]], ["x", 1]]
        book = Book(rows)
        rows[1][1].append(0)
        rows[0][0] = "b"
        rows.pop()
        self.assertEqual([("a", ()), ("f", (0, 0)), ("x", 1)], book.rows())

    def test_what_is_passed_is_not_changed(self):
        rows = [["a", []], ["f", [0, 0]], ["x", 1]]
        book = Book(rows)
        book.constant("b")
        self.assertEqual([["a", []], ["f", [0, 0]], ["x", 1]], rows)

    def test_no_list_of_rows(self):
        for rows in any_values():
            if not isinstance(rows, (list, tuple)):
                check_raises(self, InvalidPart, {"value": rows}, Book, rows)

    def test_items_of_a_wrong_form(self):
        wrong = [None, True, 1, "ab", "a", {}, (), ("a",), ("a", (), ()), ["a"], {"a": 1, "b": 2}, Book(ROWS[:2]),
                 ("a", None), ("a", True), ("a", False), ("a", -1), ("a", "b"), ("a", {}), ("a", Book()),
                 ("f", (0, 0, 0, 0)), ["f", [0] * 4], ("A", -1), (None, None), ("A", (0, 0, 0, 0))]
        for item in wrong:
            check_raises(self, InvalidRow, {"value": item}, Book, [("b", ()), item])
            check_raises(self, InvalidRow, {"value": item}, Book, (item, None))

    def test_three_arguments_are_the_most(self):
        for many in range(4):
            self.assertEqual([("b", ()), ("f", (0,) * many)], Book([("b", ()), ("f", [0] * many)]).rows())

    def test_turns_from_zero_on(self):
        for turn in (0, 1, HUGE):
            self.assertEqual([("x", turn)], Book([("x", turn)]).rows())

    def test_no_name(self):
        for name in NO_NAMES:
            for last in ((), [], (0,), [9], (None, None, None), 0, 5):
                check_raises(self, InvalidName, {"value": name}, Book, [("b", ()), (name, last), None])

    def test_no_number_of_an_earlier_row(self):
        for number in NO_NUMBERS + [2]:
            for numbers in ((number,), [0, number], (number, 0), [1, 0, number], (0, number, 1)):
                item = ("f", numbers)
                check_raises(self, InvalidRow, {"value": item}, Book, [("a", ()), ("b", ()), item, ("c", ())])

    def test_an_equal_earlier_row(self):
        for earlier, item in [(("a", ()), ["a", []]), (("x", 3), ["x", 3]), (("f", (0, 0)), ("f", [0, 0]))]:
            check_raises(self, InvalidRow, {"value": item}, Book, [("b", ()), earlier, ("c", ()), item])

    def test_rows_that_only_look_equal(self):
        rows = [("a", ()), ("a", 0), ("b", 1), ("a", 1), ("a", (0,)), ("a", (1,)), ("a", (0, 0)), ("a", (0, 0, 0))]
        self.assertEqual(rows, Book(rows).rows())

    def test_the_first_wrong_item_is_told(self):
        bad_row, bad_name, twice = ("f", (9,)), ("A", ()), ("a", [])
        check_raises(self, InvalidRow, {"value": bad_row}, Book, [("a", ()), bad_row, bad_name, twice])
        check_raises(self, InvalidName, {"value": "A"}, Book, [("a", ()), bad_name, bad_row, twice])
        check_raises(self, InvalidRow, {"value": twice}, Book, [("a", ()), twice, bad_name, bad_row])

    def test_four_thousand_rows(self):
        rows = chain_rows("f", 3, 4000)
        self.assertEqual(rows, Book(rows).rows())
        wrong = ("g", [4000])
        check_raises(self, InvalidRow, {"value": wrong}, Book, rows + [wrong])
        again = ("f", [3998, 3998, 3998])
        check_raises(self, InvalidRow, {"value": again}, Book, rows + [again])


class TestAdd(unittest.TestCase):

    def setUp(self):
        self.book = Book([("a", ()), ("b", ()), ("f", (0, 1))])

    def test_document(self):
        book = Book()
        numbers = [book.constant("a"), book.apply("f", [0, 0]), book.sample("x", 3), book.apply("f", [0, 0])]
        self.assertEqual([0, 1, 2, 1], numbers)
        self.assertEqual([("a", ()), ("f", (0, 0)), ("x", 3)], book.rows())

    def test_new_rows_are_the_last(self):
        self.assertEqual(3, self.book.constant("c"))
        self.assertEqual(4, self.book.apply("g", [3]))
        self.assertEqual(5, self.book.sample("c", 0))
        self.assertEqual(6, self.book.apply("g", (5, 4, 0)))
        self.assertEqual([("c", ()), ("g", (3,)), ("c", 0), ("g", (5, 4, 0))], self.book.rows()[3:])

    def test_rows_that_are_there(self):
        before = self.book.rows()
        self.assertEqual([0, 1], [self.book.constant("a"), self.book.constant("b")])
        self.assertEqual([2, 2], [self.book.apply("f", [0, 1]), self.book.apply("f", (0, 1))])
        self.assertEqual(before, self.book.rows())
        self.assertEqual([3, 3, 4], [self.book.sample("x", 1), self.book.sample("x", 1), self.book.sample("x", 2)])

    def test_unlike_rows_of_one_name(self):
        book = Book()
        numbers = [book.constant("a"), book.sample("a", 0), book.apply("a", [0]), book.sample("a", 1),
                   book.apply("a", [1]), book.apply("a", [0, 0]), book.apply("a", [0, 0, 0]), book.constant("a")]
        self.assertEqual([0, 1, 2, 3, 4, 5, 6, 0], numbers)

    def test_by_name(self):
        self.assertEqual(3, self.book.constant(symbol="c"))
        self.assertEqual(4, self.book.apply(numbers=[0], symbol="c"))
        self.assertEqual(5, self.book.sample(turn=4, name="c"))

    def test_no_names(self):
        for name in NO_NAMES:
            check_refused(self, self.book, InvalidName, {"value": name}, self.book.constant, name)
            for numbers in ([0], [], None, [9]):
                check_refused(self, self.book, InvalidName, {"value": name}, self.book.apply, name, numbers)
            for turn in (0, -1, None):
                check_refused(self, self.book, InvalidName, {"value": name}, self.book.sample, name, turn)

    def test_one_to_three_arguments(self):
        for many in range(6):
            numbers = [0] * many
            if 1 <= many <= 3:
                self.assertEqual(self.book.apply("h", numbers), self.book.apply("h", tuple(numbers)))
            else:
                check_refused(self, self.book, InvalidPart, {"value": numbers}, self.book.apply, "h", numbers)
        wrong = [None] * 4
        check_refused(self, self.book, InvalidPart, {"value": wrong}, self.book.apply, "h", wrong)

    def test_no_list_of_numbers(self):
        for value in any_values():
            if not isinstance(value, (list, tuple)):
                check_refused(self, self.book, InvalidPart, {"value": value}, self.book.apply, "f", value)

    def test_no_number_of_a_row(self):
        for item in NO_NUMBERS:
            for numbers in ([item], (0, item), [item, "later"], (1, 2, item), [0, item, -1]):
                check_refused(self, self.book, UnknownTerm, {"number": item}, self.book.apply, "f", numbers)

    def test_the_last_row_is_a_number(self):
        self.assertEqual(3, self.book.apply("g", [2]))
        self.assertEqual(4, self.book.apply("g", [3]))

    def test_turns(self):
        for turn in any_values():
            if turn.__class__ is int and turn >= 0:
                number = self.book.sample("x", turn)
                self.assertEqual(("x", turn), self.book[number])
            else:
                check_refused(self, self.book, InvalidTurn, {"value": turn}, self.book.sample, "x", turn)

    def test_the_caller_may_change_what_was_passed(self):
        numbers = [0, 1, 2]
        number = self.book.apply("h", numbers)
        numbers[0] = 2
        self.assertEqual(("h", (0, 1, 2)), self.book[number])
        self.assertEqual([2, 1, 2], numbers)


class TestAsk(unittest.TestCase):

    def test_rows_are_new_at_each_call(self):
        book = Book(ROWS)
        rows = book.rows()
        rows.append(("b", ()))
        rows[0] = None
        self.assertEqual(ROWS, book.rows())
        self.assertEqual(len(ROWS), len(book))
        self.assertIsNot(book.rows(), book.rows())

    def test_length_and_rows_by_number(self):
        book = Book()
        for count, row in enumerate(ROWS):
            self.assertEqual(count, len(book))
            book = Book(ROWS[:count + 1])
            self.assertEqual(row, book[count])
            self.assertIs(tuple, book[count].__class__)
        self.assertEqual(ROWS, [book[number] for number in range(len(book))])

    def test_no_number_of_a_row(self):
        for book in (Book(), Book(ROWS[:1]), Book(ROWS[:3])):
            for number in NO_NUMBERS + any_values() + [len(book), -len(book)]:
                if is_number(number, len(book)):
                    self.assertEqual(ROWS[number], book[number])
                else:
                    check_refused(self, book, UnknownTerm, {"number": number}, lambda n: book[n], number)

    def test_contains_rows(self):
        book = Book(ROWS)
        for name, last in ROWS:
            self.assertTrue((name, last) in book)
            self.assertTrue([name, last] in book)
            if isinstance(last, tuple):
                self.assertTrue((name, list(last)) in book)
                self.assertTrue([name, list(last)] in book)

    def test_contains_no_other_rows(self):
        book = Book(ROWS)
        for value in [("b", ()), ("x", 1), ("x", -3), ("f", (1, 0)), ("f", (0,)), ("f", ()), ("f", (0, 1, 1)), ("f", 0),
                      ("f", (0, 1, 0, 1)), ("g", (2, 2)), ("A", ()), ("f", (0, 99)), ("f", (0, -1)), ("a", 0)]:
            self.assertFalse(value in book, value)
            self.assertFalse(list(value) in book, value)

    def test_true_and_false_equal_no_integers(self):
        book = Book([("a", ()), ("x", 0), ("x", 1), ("f", (0, 1)), ("f", (1,)), ("f", (0,))])
        for value in [("x", False), ("x", True), ("f", (0, True)), ("f", (False, 1)), ("f", (False, True)),
                      ["f", [True]], ["f", [False]], ["x", True]]:
            self.assertFalse(value in book, value)

    def test_contains_any_value(self):
        rows = [("a", ()), ("f", (0,)), ("x", 3)]
        for value in any_values():
            expected = value in [("a", ()), ["a", []], ("x", 3), ("f", (0,))]
            self.assertIs(expected, value in Book(rows), value)
            self.assertIs(False, value in Book(), value)
        for value in [("a", {}), ({}, ()), ([], ()), ("f", ([0],)), ("f", ({},)), ("f", (Book(),)), (Book(), ()),
                      ("f", [[[0]]]), ("a", "b"), ("a", ""), ("f", "a"), "ab", "a", {"a": (), "b": ()}, ("a", (), ()),
                      ("a",), Book(rows[:2]), (("a", ()), ("a", ())), ("f", [0] * 200), ("f", ("0",)), ("f", (None,))]:
            self.assertIs(False, value in Book(rows), value)

    def test_contains_does_not_change(self):
        book, value = Book(ROWS), ["g", [2, 2, 4]]
        self.assertTrue(value in book)
        self.assertFalse(("h", (0,)) in book)
        self.assertEqual(ROWS, book.rows())
        self.assertEqual(["g", [2, 2, 4]], value)

    def test_equal_books(self):
        one, other = Book(ROWS), Book()
        for name, last in ROWS:
            self.assertFalse(one == other)
            self.assertTrue(one != other)
            if not isinstance(last, tuple):
                other.sample(name, last)
            elif last:
                other.apply(name, last)
            else:
                other.constant(name)
        self.assertTrue(one == other)
        self.assertFalse(one != other)

    def test_the_order_of_rows_counts(self):
        self.assertFalse(Book([("a", ()), ("b", ())]) == Book([("b", ()), ("a", ())]))
        self.assertFalse(Book([("a", ())]) == Book([("a", 0)]))
        self.assertTrue(Book() == Book())

    def test_a_book_equals_only_books(self):
        for value in any_values():
            self.assertIs(isinstance(value, Book) and len(value) == 0, Book() == value)
        self.assertFalse(Book(ROWS) == ROWS)
        self.assertTrue(Book(ROWS) != ROWS)

    def test_copied(self):
        book = Book(ROWS)
        copy = book.copied()
        self.assertIs(Book, copy.__class__)
        self.assertIsNot(book, copy)
        self.assertEqual(book, copy)
        self.assertEqual(len(ROWS), copy.constant("new"))
        self.assertEqual(ROWS, book.rows())
        self.assertEqual(len(ROWS), book.sample("other", 1))
        self.assertEqual(ROWS + [("new", ())], copy.rows())
        self.assertEqual([("other", 1)], book.rows()[len(ROWS):])
        self.assertEqual([7, 1], [copy.apply("h", [7]) - 1, copy.size(7)])
        check_raises(self, UnknownTerm, {"number": 8}, book.size, 8)

    def test_a_book_is_not_iterated_over(self):
        self.assertRaises(TypeError, list, Book(ROWS))


if __name__ == "__main__":
    unittest.main()
