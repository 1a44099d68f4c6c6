"""[54]: networks with terms as values."""

import unittest

from helpers import check_new, check_order, check_raises, limit_seconds, no_indices, no_nets, small_net
from model import Model, answers_of, given_rows, many_nets, mixing_meaning
from toldpast.books import Book
from toldpast.errors import InvalidNet, InvalidTurn
from toldpast.nets import Net
from toldpast.runs import Machine, answers, free_run, turns


def numbers_of(rows, numbers):
    """The numbers that a model gives the terms in some rows."""
    found = []
    for name, last in rows:
        if isinstance(last, tuple):
            key = (name, tuple(found[n] for n in last))
        else:
            key = ("sample", (name, last))
        found.append(numbers.setdefault(key, len(numbers)))
    return found


def growing_net():
    """A network whose terms have at each turn three times the size that they had before."""
    gates = [(f"g{n}", "f", [(f"g{(n + 1) % 8}", [0]), (f"g{(n + 3) % 8}", [0]), (f"g{n}", [0])]) for n in range(7)]
    gates.append(("g7", "f", [("g0", []), ("g0", []), ("x", [])]))
    return Net(["x"], gates, [("g7", []), ("g7", [0]), ("g3", []), ("x", [])], [("a", ())])


class TestFreeRun(unittest.TestCase):

    def test_document(self):
        rows, told = free_run(small_net(), 2)
        self.assertEqual(["h", "f"], [rows[told[0][0]][0], rows[told[1][0]][0]])

    def test_terms_and_samples(self):
        rows, told = free_run(small_net(), 3)
        book = Book(rows)
        self.assertEqual(["h(a)", "f(x@0,a)", "f(x@1,f(x@0,a))"], [book.text(inner[0]) for inner in told])

    def test_kinds(self):
        result = free_run(count=4, net=small_net())
        self.assertEqual([tuple, list, list], [item.__class__ for item in (result, *result)])
        for row in result[0]:
            self.assertIs(tuple, row.__class__)
            self.assertIn(row[1].__class__, (tuple, int))
        self.assertEqual([list] * 4, [inner.__class__ for inner in result[1]])

    def test_no_turns(self):
        for net in (Net([], [], []), small_net(), growing_net()):
            self.assertEqual(([], []), free_run(net, 0))

    def test_no_outs(self):
        self.assertEqual(([], [[], [], []]), free_run(Net(["x"], [], []), 3))
        self.assertEqual(([], [[]] * 200), free_run(Net([], [], []), 200))

    def test_only_inputs(self):
        net = Net(["x", "y", "z"], [], [("y", []), ("x", [0]), ("y", [])], [("a", ())])
        rows, told = free_run(net, 2)
        self.assertEqual([["y", "a", "y"], ["y", "x", "y"]], [[rows[n][0] for n in inner] for inner in told])
        self.assertEqual([("a", ()), ("x", 0), ("y", 0), ("y", 1)], sorted(rows, key=str))

    def test_rows_that_no_answer_needs_are_left_out(self):
        gates = [("g", "f", [("x", []), ("y", [0, 0])])]
        net = Net(["x", "y"], gates, [("g", [1, 1])], [("a", ()), ("b", ())])
        self.assertEqual(([("b", ())], [[0], [0]]), free_run(net, 2))
        rows, told = free_run(net, 3)
        self.assertEqual(["a", "b", "f", "x"], sorted(name for name, _ in rows))
        self.assertEqual("f(x@0,a)", Book(rows).text(told[2][0]))

    def check_rows(self, rows, told):
        """Check what [54] says of the rows."""
        used = {number for inner in told for number in inner}
        for index, row in enumerate(rows):
            self.assertEqual(2, len(row))
            if isinstance(row[1], tuple):
                self.assertTrue(all(0 <= number < index for number in row[1]))
                used.update(row[1])
        self.assertEqual(set(range(len(rows))), used)
        self.assertEqual(len(rows), len(set(rows)))

    def test_rows_and_answers_of_many_networks(self):
        for net in many_nets():
            for count in (1, 2, 30):
                rows, told = free_run(net, count)
                self.check_rows(rows, told)
                numbers = {}
                model = Model(net, numbers).answers(count)
                found = numbers_of(rows, numbers)
                self.assertEqual(model, [[found[n] for n in inner] for inner in told])

    def test_the_rows_evaluated_are_the_answers_of_a_run_and_of_a_machine(self):
        for net in many_nets():
            meaning, given = mixing_meaning(net), given_rows(net, 20)
            samples = {name: [row[place] for row in given] for place, name in enumerate(net.inputs())}
            rows, told = free_run(net, 20)
            book = Book(rows)
            values = [[book.evaluate(number, meaning, samples=samples) for number in inner] for inner in told]
            machine = Machine(net, meaning)
            self.assertEqual(values, answers(net, meaning, given))
            self.assertEqual(values, list(turns(net, meaning, given)))
            self.assertEqual(values, [machine(row) for row in given])

    def test_a_longer_run_begins_as_a_shorter_one(self):
        for net in many_nets()[::5]:
            numbers = {}
            long_rows, long_told = free_run(net, 25)
            rows, told = free_run(net, 11)
            found, long_found = numbers_of(rows, numbers), numbers_of(long_rows, numbers)
            self.assertEqual([[found[n] for n in inner] for inner in told],
                             [[long_found[n] for n in inner] for inner in long_told[:11]])

    def test_terms_that_grow_at_each_turn(self):
        limit_seconds(self, 20)
        rows, told = free_run(growing_net(), 200)
        self.check_rows(rows, told)
        self.assertEqual(200, len(told))
        self.assertLess(len(rows), 2000)
        one, two = answers_of([growing_net(), growing_net()], 200)
        self.assertEqual(one, two)

    def test_doubling_with_starts_that_are_large(self):
        limit_seconds(self, 20)
        terms = [("a", ())] + [("f", (n, n)) for n in range(399)]
        net = Net(["x"], [("g", "f", [("g", [399]), ("g", [398]), ("x", [])])], [("g", [399])], terms)
        rows, told = free_run(net, 200)
        self.check_rows(rows, told)
        self.assertEqual((400 + 199 * 2, 399), (len(rows), told[0][0]))

    def test_new_lists(self):
        check_new(self, free_run, small_net(), 5)
        check_new(self, free_run, Net(["x"], [], [("x", []), ("x", [])]), 3)

    def test_the_first_and_the_last_count(self):
        self.assertEqual([0, 1, 199, 200], [len(free_run(small_net(), count)[1]) for count in (0, 1, 199, 200)])


class TestRefused(unittest.TestCase):

    def test_no_network(self):
        for value in no_nets():
            check_raises(self, InvalidNet, {"value": value}, free_run, value, 1)

    def test_no_count(self):
        for value in no_indices(201) + [201, 202]:
            check_raises(self, InvalidTurn, {"value": value}, free_run, small_net(), value)

    def test_the_order_of_the_checks(self):
        def no_net(arguments):
            arguments["net"] = 5
            return InvalidNet, {"value": 5}

        def no_count(arguments):
            arguments["count"] = "5"
            return InvalidTurn, {"value": "5"}
        check_order(self, lambda: {"net": small_net(), "count": 5}, [no_net, no_count], free_run)


if __name__ == "__main__":
    unittest.main()
