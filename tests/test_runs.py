"""[51], [52]: the answers of networks with given functions and values."""

import unittest

from helpers import any_values, check_new, check_order, check_raises, no_indices, no_lists, no_nets, small_meaning
from helpers import small_net
from model import given_rows, many_nets, mixing_meaning
from toldpast.books import Book
from toldpast.errors import InvalidMeaning, InvalidNet, InvalidTurn, InvalidValues, MissingError, NetError
from toldpast.errors import UnknownSymbol
from toldpast.nets import Net
from toldpast.runs import answers, free_run, turns


def listed(net, meaning, rows):
    """What the generator gives."""
    return list(turns(net, meaning, rows))


def both(case, error, fields, net, meaning, rows):
    """Check that answers and turns refuse the same arguments."""
    check_raises(case, error, fields, answers, net, meaning, rows)
    check_raises(case, error, fields, listed, net, meaning, rows)


def plain_answers(net, meaning, rows):
    """The answers, told by [3]: each value at each turn, asked for when it is needed."""
    inputs, gates, outs, terms = net.rows()
    gates = {name: (symbol, edges) for name, symbol, edges in gates}
    starts = []
    for symbol, numbers in terms:
        starts.append(meaning[symbol]([starts[n] for n in numbers]))
    known = {}

    def delivered(edge, turn):
        source, places = edge
        return starts[places[turn]] if turn < len(places) else value(source, turn - len(places))

    def value(name, turn):
        if name in inputs:
            return rows[turn][inputs.index(name)]
        if (name, turn) not in known:
            symbol, edges = gates[name]
            known[name, turn] = meaning[symbol]([delivered(edge, turn) for edge in edges])
        return known[name, turn]
    found = []
    for turn in range(len(rows)):
        for name in gates:
            value(name, turn)
        found.append([delivered(edge, turn) for edge in outs])
    return found


class TestAnswers(unittest.TestCase):

    def test_document(self):
        self.assertEqual([[6], [15], [35]], answers(small_net(), small_meaning(), [[10], [20], [30]]))

    def test_first(self):
        rows = [[10], [20], [30]]
        for first in range(4):
            told = answers(small_net(), small_meaning(), rows, first=first)
            self.assertEqual([[6], [15], [35]][first:], told)

    def test_no_turns(self):
        self.assertEqual([], answers(small_net(), small_meaning(), []))
        self.assertEqual([], answers(small_net(), small_meaning(), (), first=0))
        self.assertEqual([], listed(small_net(), small_meaning(), ()))

    def test_no_inputs_and_no_outs(self):
        self.assertEqual([[], []], answers(Net([], [], []), {}, [[], ()]))
        self.assertEqual([[], []], answers(Net(["x"], [], []), {}, [[1], [2]]))
        self.assertEqual([[], []], listed(Net([], [], []), {}, [[], ()]))

    def test_tuples_stand_for_lists_and_names_for_places(self):
        told = answers(first=1, rows=((10,), (20,), (30,)), meaning=small_meaning(), net=small_net())
        self.assertEqual([[15], [35]], told)
        self.assertEqual([[6], [15]], list(turns(rows=((10,), (20,)), net=small_net(), meaning=small_meaning())))

    def test_inputs_and_outs_in_their_order(self):
        net = Net(["b", "a"], [("g", "f", [("a", []), ("b", [])])], [("a", []), ("g", []), ("b", [0])], [("c", ())])
        meaning = {"c": lambda v: "c", "f": lambda v: v[0] + v[1]}
        self.assertEqual([["2", "21", "c"], ["4", "43", "1"]], answers(net, meaning, [["1", "2"], ["3", "4"]]))

    def test_starts_are_delivered_in_their_order(self):
        net = Net(["x"], [], [("x", [0, 1, 2])], [(letter, ()) for letter in "abc"])
        meaning = {letter: (lambda v, letter=letter: letter) for letter in "abc"}
        told = answers(net, meaning, [[n] for n in range(5)])
        self.assertEqual([["a"], ["b"], ["c"], [0], [1]], told)

    def test_gates_that_stand_before_their_sources(self):
        gates = [("r", "f", [("q", []), ("p", [])]), ("q", "f", [("p", []), ("x", [])]), ("p", "f", [("x", []), ("x", [])])]
        meaning = {"f": lambda v: v[0] + 10 * v[1]}
        self.assertEqual([[131]], answers(Net(["x"], gates, [("r", [])]), meaning, [[1]]))

    def test_one_symbol_with_several_numbers_of_arguments(self):
        gates = [("p", "f", [("x", [])]), ("q", "f", [("p", []), ("x", [])]), ("r", "f", [("p", []), ("q", []), ("x", [])])]
        net = Net(["x"], gates, [("r", []), ("x", [1])], [("f", ()), ("f", (0,))])
        told = answers(net, {"f": lambda v: [len(v), *v]}, [[2], [3]])
        self.assertEqual([[[3, [1, 2], [2, [1, 2], 2], 2], [1, [0]]], [[3, [1, 3], [2, [1, 3], 3], 3], 2]], told)

    def test_functions_get_new_lists(self):
        seen = []

        def function(items):
            self.assertIs(list, items.__class__)
            seen.append(items)
            return len(seen)
        net = small_net()
        answers(net, {name: function for name in "ahf"}, [[1]] * 5)
        self.assertEqual(len(seen), len({id(items) for items in seen}))

    def test_a_function_may_change_its_list(self):
        def spoiling(items):
            told = sum(items)
            items.clear()
            return told
        meaning = {"a": lambda v: v.append(1) or 5, "h": spoiling, "f": spoiling}
        self.assertEqual([[5], [15], [35]], answers(small_net(), meaning, [[10], [20], [30]]))

    def test_values_of_any_kind_are_passed_on_as_the_very_objects(self):
        gates = [("g", "f", [("x", [0]), ("y", [])])]
        net = Net(["x", "y"], gates, [("g", []), ("x", []), ("y", [0])], [("a", ())])
        kept = []
        for value in any_values() + [[], {}, None]:
            start, made, other = [value], {"made": value}, (value,)
            meaning = {"a": lambda v: start, "f": lambda v: kept.append(v) or made}
            told = answers(net, meaning, [[value, other], [other, value]])
            for expected, got in zip([made, value, start, made, other, other], told[0] + told[1]):
                self.assertIs(expected, got)
            for expected, got in zip([start, other, value, value], kept[-2] + kept[-1]):
                self.assertIs(expected, got)

    def test_answers_are_those_of_the_definition(self):
        for net in many_nets():
            meaning, rows = mixing_meaning(net), given_rows(net, 40)
            told = answers(net, meaning, rows)
            self.assertEqual(plain_answers(net, meaning, rows), told)
            self.assertEqual(told, listed(net, meaning, rows))
            self.assertEqual(told[7:], answers(net, meaning, rows, first=7))

    def test_answers_are_the_values_of_the_terms_of_the_free_run(self):
        for net in many_nets():
            meaning, rows = mixing_meaning(net), given_rows(net, 25)
            samples = {name: [row[place] for row in rows] for place, name in enumerate(net.inputs())}
            book, numbers = free_run(net, 25)
            book = Book(book)
            told = [[book.evaluate(n, meaning, samples=samples) for n in inner] for inner in numbers]
            self.assertEqual(answers(net, meaning, rows), told)

    def test_two_hundred_turns_of_eight_gates(self):
        gates = [(f"g{n}", "f", [(f"g{(n + 1) % 8}", [0] * 30), ("x", []), (f"g{n}", [0] * 30)]) for n in range(8)]
        net = Net(["x"], gates, [("g0", [0] * 30), ("g7", [])], [("a", ())])
        meaning, rows = mixing_meaning(net), given_rows(net, 200)
        self.assertEqual(plain_answers(net, meaning, rows), answers(net, meaning, rows))

    def test_the_caller_may_change_what_is_returned_and_passed(self):
        rows = [[10], [20]]
        told = check_new(self, answers, small_net(), small_meaning(), rows)
        self.assertEqual([[10], [20]], rows)
        rows[0][0] = 100
        self.assertEqual([[6], [15]], told)
        # One value is answered by two outs, and by the same out at two turns.
        net = Net(["x"], [], [("x", []), ("x", [])])
        check_new(self, answers, net, {}, [[1], [1]])
        check_new(self, listed, net, {}, [[1], [1]])

    def test_nothing_that_is_passed_is_changed(self):
        net, meaning, rows = small_net(), small_meaning(), [[10], (20,)]
        before = dict(meaning)
        answers(net, meaning, rows)
        listed(net, meaning, rows)
        self.assertEqual((small_net(), before, [[10], (20,)]), (net, meaning, rows))


class TestTurns(unittest.TestCase):

    def test_one_list_for_each_turn(self):
        run = turns(small_net(), small_meaning(), [[10], [20], [30]])
        self.assertEqual([[6], [15]], [next(run), next(run)])
        self.assertEqual([[35]], list(run))

    def test_it_is_a_generator_that_does_one_turn_at_a_time(self):
        calls = []
        meaning = {"f": lambda v: calls.append(v) or 1}
        run = turns(Net(["x"], [("g", "f", [("x", [])])], [("g", [])]), meaning, [[1], [2], [3]])
        for many in (1, 2, 3):
            next(run)
            self.assertEqual(many, len(calls))
        self.assertEqual([], list(run))

    def test_what_it_gives_may_be_changed(self):
        told = []
        for item in turns(small_net(), small_meaning(), [[10], [20], [30]]):
            told.append(list(item))
            item.clear()
        self.assertEqual([[6], [15], [35]], told)

    def test_a_wrong_row_is_told_before_the_first_item(self):
        wrong = [3, 4]
        run = turns(small_net(), small_meaning(), [[1], [2], wrong])
        check_raises(self, InvalidValues, {"value": wrong}, next, run)


class TestRefused(unittest.TestCase):

    def test_no_network(self):
        for value in no_nets():
            both(self, InvalidNet, {"value": value}, value, {}, [])

    def test_no_meaning(self):
        for value in any_values():
            if not isinstance(value, dict):
                both(self, InvalidMeaning, {"value": value}, small_net(), value, [])
        for net in (Net([], [], []), Net(["x"], [], [("x", [])])):
            both(self, InvalidMeaning, {"value": None}, net, None, [])

    def test_unknown_symbols(self):
        gates = [("p", "k", [("x", [0])]), ("q", "a", [("x", [1])]), ("r", "m", [("p", []), ("q", [])])]
        net = Net(["x"], gates, [("r", [2])], [("b", ()), ("a", ()), ("h", (0,))])
        whole = {name: lambda v: 0 for name in "bahkm"}
        # The symbols of the terms come first, in the order of terms(), and then those of the gates.
        order = ["b", "a", "h", "k", "m"]
        self.assertEqual(["b", "a", "h"], [name for name, _ in net.terms()])
        for late in range(5):
            for early in range(late + 1):
                meaning = {name: whole[name] for name in order if name not in (order[late], order[early])}
                both(self, UnknownSymbol, {"name": order[early]}, net, meaning, [])
        both(self, UnknownSymbol, {"name": "b"}, net, {}, [])

    def test_more_symbols_than_are_needed(self):
        self.assertEqual([[1]], answers(Net(["x"], [], [("x", [])], [("a", ())]), {"b": None, 3: None}, [[1]]))

    def test_no_rows(self):
        for value in no_lists():
            both(self, InvalidValues, {"value": value}, small_net(), small_meaning(), value)

    def test_rows_of_another_length(self):
        wrong = no_lists() + [[], (), [1, 2], (1, 2), [[1], [2]]]
        for item in wrong:
            both(self, InvalidValues, {"value": item}, small_net(), small_meaning(), [[1], item, None])
        item = [1]
        both(self, InvalidValues, {"value": item}, Net([], [], []), {}, [[], item])

    def test_no_first(self):
        for value in no_indices(3) + [3]:
            rows = [[1], [2]]
            check_raises(self, InvalidTurn, {"value": value}, answers, small_net(), small_meaning(), rows, first=value)
        check_raises(self, InvalidTurn, {"value": 1}, answers, small_net(), small_meaning(), [], first=1)

    def faults(self):
        def no_net(arguments):
            arguments["net"] = value = small_net().rows()
            return InvalidNet, {"value": value}

        def no_meaning(arguments):
            arguments["meaning"] = value = ["a", "h", "f"]
            return InvalidMeaning, {"value": value}

        def no_symbol(name):
            def fault(arguments):
                arguments["meaning"].pop(name, None)
                return UnknownSymbol, {"name": name}
            return fault

        def no_rows(arguments):
            arguments["rows"] = value = {"x": [1]}
            return InvalidValues, {"value": value}

        def no_row(place):
            def fault(arguments):
                arguments["rows"][place] = value = []
                return InvalidValues, {"value": value}
            return fault

        def no_first(arguments):
            arguments["first"] = True
            return InvalidTurn, {"value": True}
        symbols = [no_symbol("a"), no_symbol("h"), no_symbol("f")]
        return [no_net, no_meaning, *symbols, no_rows, no_row(0), no_row(1), no_first]

    def test_the_order_of_the_checks(self):
        def make():
            return {"net": small_net(), "meaning": small_meaning(), "rows": [[1], [2], [3]], "first": 0}

        def make_turns():
            return {name: value for name, value in make().items() if name != "first"}
        check_order(self, make, self.faults(), answers)
        check_order(self, make_turns, self.faults()[:-1], listed)

    def test_no_function_is_called_if_the_arguments_are_refused(self):
        calls = []
        meaning = {name: (lambda v: calls.append(v)) for name in "ahf"}
        for rows, more in ((None, {}), ([[1], []], {}), ([[1]], {"first": 2})):
            with self.assertRaises((NetError, MissingError)):
                answers(small_net(), meaning, rows, **more)
            self.assertEqual([], calls)


if __name__ == "__main__":
    unittest.main()
