"""[75]: finite meanings that show that networks are not alike."""

import unittest

from helpers import HUGE, any_values, check_new, check_raises, limit_seconds, no_lists, no_names, small_net, spoil
from kin import chain_net, kin_pairs, ring_net, wheel_net, wire
from toldpast.books import Book
from toldpast.compare import first_unlike, meaning_of, parting
from toldpast.errors import InvalidName, InvalidPart, InvalidRow, NetError
from toldpast.nets import Net
from toldpast.runs import Machine, answers, free_run


def symbols(net):
    """The names of the symbols of a network."""
    _, gates, _, terms = net.rows()
    return {row[0] for row in terms} | {gate[1] for gate in gates}


def given_of(net, samples):
    """The values of the inputs, turn by turn."""
    return [list(row) for row in zip(*[samples[name] for name in net.inputs()])]


def parts_of(one, other, turn, out):
    """The number of different terms and samples that are, or are parts of, one of two answers."""
    rows, told = free_run(one, turn + 1)
    other_rows, other_told = free_run(other, turn + 1)
    book = Book(rows)
    number = book.carry(Book(other_rows), other_told[turn][out])
    return len(set(book.parts(told[turn][out])) | set(book.parts(number)))


class TestParting(unittest.TestCase):

    def check_parting(self, one, other, count=None):
        """Check what is told by the words of [75]."""
        turn, out, tables, samples = parting(one, other)
        self.assertEqual(first_unlike(one, other), (turn, out))
        self.assertEqual(symbols(one) | symbols(other), set(tables))
        self.assertEqual(set(one.inputs()), set(samples))
        count = parts_of(one, other, turn, out) if count is None else count
        self.assertLessEqual(sum(len(rows) for rows in tables.values()), count)
        numbers = [n for row in samples.values() for n in row]
        for rows in tables.values():
            self.assertIs(list, rows.__class__)
            for arguments, value in rows:
                self.assertIs(tuple, arguments.__class__)
                numbers += [*arguments, value]
        for number in numbers:
            self.assertIs(int, number.__class__)
            self.assertTrue(0 <= number < count)
        for row in samples.values():
            self.assertEqual((list, turn + 1), (row.__class__, len(row)))
        meaning = meaning_of(tables)
        self.assertEqual(set(tables), set(meaning))
        told = []
        for net in (one, other):
            machine = Machine(net, meaning)
            told.append([machine(values) for values in given_of(net, samples)][turn][out])
        self.assertNotEqual(*told)

    def test_document(self):
        one, other = ring_net("a"), ring_net("b")
        _, _, tables, samples = parting(one, other)
        given = [[samples["x"][0]]]
        self.assertIs(False, answers(one, meaning_of(tables), given) == answers(other, meaning_of(tables), given))
        self.check_parting(one, other)

    def test_alike_networks(self):
        self.assertIsNone(parting(small_net(), small_net()))
        self.assertIsNone(parting(wheel_net("aa"), wheel_net("aaa")))
        self.assertIsNone(parting(one=Net([], [], []), other=Net([], [], [])))

    def test_many_networks(self):
        unlike = 0
        for one, other in kin_pairs():
            found = first_unlike(one, other)
            if found is None:
                self.assertIsNone(parting(one, other))
            else:
                unlike += 1
                self.check_parting(one, other)
        self.assertGreater(unlike, 150)

    def test_symbols_that_no_answer_needs(self):
        terms = [("a", ()), ("b", ()), ("k", (1, 1))]
        one = Net(["x"], [("g", "f", [("x", [0, 2]), ("g", [0])])], [("g", [0, 0, 2]), ("x", [])], terms)
        other = Net(["x"], [("h", "m", [("x", [])])], [("x", [0]), ("h", [])], [("c", ())])
        turn, out, tables, samples = parting(one, other)
        self.assertEqual([(0, 0), {"a", "b", "k", "f", "m", "c"}], [(turn, out), set(tables)])
        self.assertEqual([], tables["m"] + tables["f"] + tables["b"])
        self.check_parting(one, other)

    def test_inputs_that_no_answer_needs(self):
        turn, out, tables, samples = parting(wire("aab"), wire("aac"))
        self.assertEqual((2, 0, {"x", "y"}), (turn, out, set(samples)))
        self.assertEqual([3, 3], [len(row) for row in samples.values()])
        self.check_parting(wire("aab"), wire("aac"))

    def test_two_samples(self):
        one = Net(["x", "y"], [], [("x", [])])
        other = Net(["x", "y"], [], [("y", [])])
        turn, out, tables, samples = parting(one, other)
        self.assertEqual((0, 0, {}), (turn, out, tables))
        self.assertEqual([0, 1], sorted(samples["x"] + samples["y"]))

    def test_one_name_with_several_numbers_of_arguments_has_one_table(self):
        terms = [("f", ()), ("f", (0,)), ("f", (1, 0)), ("f", (2, 1, 0))]
        one = Net(["x"], [("g", "f", [("x", []), ("x", [3])])], [("g", [])], terms)
        other = Net(["x"], [("g", "f", [("x", []), ("x", [2])])], [("g", [])], terms)
        _, _, tables, _ = parting(one, other)
        self.assertEqual(["f"], list(tables))
        self.assertEqual([0, 1, 2, 2, 2, 3], sorted(len(arguments) for arguments, _ in tables["f"]))
        self.check_parting(one, other)

    def test_turns_far_away(self):
        limit_seconds(self, 30)
        self.check_parting(wheel_net("abaaaaaa"), wheel_net("abaaaaa"), 2000)
        one, other = chain_net(["a" * 30] * 9), chain_net(["a" * 29 + "b"] + ["a" * 30] * 8)
        self.check_parting(one, other, 40)

    def test_terms_that_are_large_when_they_are_written_out(self):
        limit_seconds(self, 30)

        def tangle(start):
            gates = [(f"g{n}", "f", [(f"g{n}", [0]), (f"g{n}", [0]), ("x" if n == 0 else f"g{n - 1}", [0] * 20)])
                     for n in range(8)]
            gates[0][2][2] = ("x", [0] * 19 + [start])
            return Net(["x"], gates, [("g7", [0] * 20)], [("a", ()), ("b", ())])
        self.assertEqual((179, 0), parting(tangle(0), tangle(1))[:2])
        self.check_parting(tangle(0), tangle(1))

    def test_new_lists_and_dicts(self):
        one, other = ring_net("a"), ring_net("b")
        told = check_new(self, parting, one, other)
        spoil(parting(one, other))
        self.assertEqual(told, parting(one, other))
        check_new(self, parting, wire("aab"), wire("aac"))


class TestMeaningOf(unittest.TestCase):

    def test_values_of_the_tables(self):
        meaning = meaning_of({"f": [((1, 2), 5), ((2, 1), 6), ((), 7), ((3,), 8), ((1, 2, 3), 9)], "g": []})
        self.assertEqual({"f", "g"}, set(meaning))
        given = [[1, 2], [2, 1], [], [3], [1, 2, 3], [1, 1], [2], [1, 2, 3, 4], [0, 0]]
        self.assertEqual([5, 6, 7, 8, 9, 0, 0, 0, 0], [meaning["f"](items) for items in given])
        self.assertEqual([0] * 9, [meaning["g"](items) for items in given])

    def test_no_tables(self):
        self.assertEqual({}, meaning_of({}))
        self.assertEqual({}, meaning_of(tables={}))

    def test_the_first_tuple_counts(self):
        meaning = meaning_of({"f": [((1,), 5), ((1,), 6), ((2,), 0), ((2,), 7)]})
        self.assertEqual([5, 0], [meaning["f"]([1]), meaning["f"]([2])])

    def test_large_and_negative_integers(self):
        meaning = meaning_of({"f": [((HUGE, -HUGE), -HUGE)]})
        self.assertEqual([-HUGE, 0], [meaning["f"]([HUGE, -HUGE]), meaning["f"]([HUGE, HUGE])])

    def test_true_does_not_equal_an_integer(self):
        meaning = meaning_of({"f": [((1,), 5), ((0,), 6)]})
        self.assertEqual([0, 0], [meaning["f"]([True]), meaning["f"]([False])])
        self.assertEqual([0] * 4, [meaning["f"]([value]) for value in (None, "1", [1], {})])

    def test_lists_stand_for_tuples(self):
        for rows in ([[[1, 2], 5]], (((1, 2), 5),), [([1, 2], 5)], ([(1, 2), 5],)):
            self.assertEqual(5, meaning_of({"f": rows})["f"]([1, 2]))

    def test_what_is_passed_may_be_changed_afterwards(self):
        tables = {"f": [[[1], 5]], "g": [((), 3)]}
        meaning = meaning_of(tables)
        tables["f"][0][0][0] = 2
        tables["f"][0][1] = 6
        tables["g"].clear()
        tables["h"] = []
        self.assertEqual([5, 0, 3], [meaning["f"]([1]), meaning["f"]([2]), meaning["g"]([])])
        self.assertEqual({"f", "g"}, set(meaning))

    def test_each_call_gives_a_new_dict_and_changes_nothing(self):
        tables = {"f": [((1,), 5)]}
        meaning = meaning_of(tables)
        meaning.clear()
        self.assertEqual(({"f": [((1,), 5)]}, ["f"]), (tables, list(meaning_of(tables))))

    def test_the_functions_work_in_runs(self):
        meaning = meaning_of({"a": [((), 1)], "h": [((1,), 2)], "f": [((7, 1), 3), ((7, 3), 4)]})
        self.assertEqual([[2], [3], [4]], answers(small_net(), meaning, [[7], [7], [7]]))

    def test_no_dict(self):
        for value in any_values():
            if not isinstance(value, dict):
                check_raises(self, InvalidPart, {"value": value}, meaning_of, value)
                check_raises(self, InvalidPart, {"value": value}, meaning_of, tables=value)

    def test_keys_that_are_no_names(self):
        for key in no_names():
            if isinstance(key, str) or key.__class__ is int:
                check_raises(self, InvalidName, {"value": key}, meaning_of, {"f": [], key: []})

    def test_values_that_are_no_lists(self):
        for value in no_lists():
            check_raises(self, InvalidPart, {"value": value}, meaning_of, {"f": [], "g": value})

    def test_items_that_are_no_rows(self):
        wrong = [((), ), ((), 1, 2), ((1, 2, 3, 4), 5), ((True,), 1), ((1,), True), ((1,), None), ((None,), 1), (1, 1),
                 ({}, 1), ("a", 1), (("a",), 1), ((1,), "a"), ([[1]], 1), ((), ()), ((1, False), 1), [[1, 2, 3, 4], 5]]
        for item in wrong + [value for value in any_values() if value != ((), 1)]:
            rows = [((), 1), item, None]
            check_raises(self, InvalidRow, {"value": item}, meaning_of, {"f": rows})

    def test_the_order_of_the_checks(self):
        # Of one key first the key itself, then its value, then the items in their order.
        bad, worse = ("a", 1), ("b", 1)
        check_raises(self, InvalidName, {"value": "F"}, meaning_of, {"F": None})
        check_raises(self, InvalidName, {"value": "F"}, meaning_of, {"F": [bad]})
        check_raises(self, InvalidRow, {"value": bad}, meaning_of, {"f": [((1,), 1), bad, worse]})

    def test_the_order_of_the_keys_does_not_matter(self):
        pairs = [("f", None), ("G", []), ("h", [1]), (3, []), (-2, None)]
        raised = []
        for order in (pairs, pairs[::-1], pairs[2:] + pairs[:2]):
            try:
                meaning_of(dict(order))
            except NetError as error:
                raised.append((error.__class__, error.value))
        self.assertEqual(raised[:1] * 3, raised)


if __name__ == "__main__":
    unittest.main()
