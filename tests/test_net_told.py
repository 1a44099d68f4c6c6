"""[32], [33], [34], [35]: what a network tells of itself."""

import unittest

from helpers import any_values, check_new, check_raises, no_indices, no_names, small_net, spoil
from model import many_nets
from toldpast.books import Book
from toldpast.errors import UnknownEdge, UnknownGate, UnknownSource
from toldpast.nets import Net
from toldpast.runs import Machine

TERMS = [("a", ()), ("b", ()), ("f", (1, 1)), ("a", ()), ("f", (0, 3)), ("g", (4, 2, 0)), ("c", ()), ("f", (1, 1))]


def wide_net():
    """A network with gates of one, two and three edges, an input that nothing reads, and readers of all kinds."""
    gates = [("p", "f", [("x", [0, 1]), ("q", [2])]), ("q", "g", [("p", []), ("x", []), ("p", [1, 1, 0])]),
             ("r", "f", [("q", [])])]
    outs = [("r", []), ("x", [2]), ("q", [0, 0, 0, 0]), ("q", [])]
    return Net(["y", "x"], gates, outs, [("a", ()), ("b", ()), ("h", (0,))])


def written(terms, number):
    symbol, numbers = terms[number]
    return (symbol, tuple(written(terms, n) for n in numbers))


def listed(term, found):
    """The standard order [32], told for terms that are written in full."""
    if term not in found:
        for argument in term[1]:
            listed(argument, found)
        found.append(term)


class TestTerms(unittest.TestCase):

    def test_document(self):
        self.assertEqual([], Net([], [], [], [("a", ())]).terms())
        net = Net(["x"], [], [("x", [2, 1])], [("a", ()), ("b", ()), ("f", (1, 1))])
        self.assertEqual([("b", ()), ("f", (0, 0))], net.terms())
        self.assertEqual([("x", [1, 0])], net.outs())

    def test_equal_terms_have_one_row(self):
        net = Net(["x"], [], [("x", [3, 0, 7, 2, 4])], TERMS)
        self.assertEqual([("a", ()), ("b", ()), ("f", (1, 1)), ("f", (0, 0))], net.terms())
        self.assertEqual([("x", [0, 0, 2, 2, 3])], net.outs())

    def test_rows_that_no_start_needs_are_left_out(self):
        self.assertEqual([], Net(["x"], [], [("x", [])], TERMS).terms())
        self.assertEqual([("c", ())], Net(["x"], [], [("x", [6])], TERMS).terms())
        self.assertEqual([("b", ()), ("f", (0, 0))], Net(["x"], [], [("x", [7])], TERMS).terms())

    def test_arguments_come_first_and_in_order(self):
        net = Net(["x"], [], [("x", [5])], TERMS)
        rows = [("a", ()), ("f", (0, 0)), ("b", ()), ("f", (2, 2)), ("g", (1, 3, 0))]
        self.assertEqual(rows, net.terms())
        terms = [("a", ()), ("b", ()), ("f", (1, 0)), ("f", (0, 2))]
        self.assertEqual(terms, Net(["x"], [], [("x", [3])], terms).terms())
        terms = [("a", ()), ("b", ()), ("f", (0, 1)), ("f", (1, 2))]
        rows = [("b", ()), ("a", ()), ("f", (1, 0)), ("f", (0, 2))]
        self.assertEqual(rows, Net(["x"], [], [("x", [3])], terms).terms())

    def test_first_use_goes_by_gates_and_slots_and_then_outs(self):
        terms = [(letter, ()) for letter in "abcdef"]
        gates = [("q", "f", [("x", [5]), ("x", [4, 5])]), ("p", "f", [("q", [3])])]
        net = Net(["x"], gates, [("p", [2, 4]), ("x", [1])], terms)
        self.assertEqual([(letter, ()) for letter in "fedcb"], net.terms())
        self.assertEqual([("x", [0]), ("x", [1, 0])], net.edges("q"))
        self.assertEqual([("p", [3, 1]), ("x", [4])], net.outs())

    def test_the_same_name_with_another_number_of_arguments_is_another_symbol(self):
        terms = [("f", ()), ("f", (0,)), ("f", (0, 0)), ("f", (0, 0, 0))]
        self.assertEqual(terms, Net(["x"], [], [("x", [0, 1, 2, 3])], terms).terms())

    def test_the_order_is_that_of_the_words_for_many_networks(self):
        for net in many_nets():
            inputs, gates, outs, terms = net.rows()
            found = []
            for _, starts in [edge for gate in gates for edge in gate[2]] + outs:
                for start in starts:
                    listed(written(terms, start), found)
            self.assertEqual(found, [written(terms, n) for n in range(len(terms))])

    def test_other_rows_for_the_same_terms_make_an_equal_network(self):
        for net in many_nets():
            inputs, gates, outs, terms = net.rows()
            count = len(terms)
            # All rows stand twice, behind rows that nothing uses, and each second start uses the second ones.
            shifted = [("zz", ()), ("zz", (0,))]
            for _ in range(2):
                base = len(shifted)
                shifted += [(symbol, [base + n for n in numbers]) for symbol, numbers in terms]

            def other(edges):
                return [(source, [2 + n + count * (at % 2) for at, n in enumerate(starts)]) for source, starts in edges]
            again = Net(inputs, [(name, symbol, other(edges)) for name, symbol, edges in gates], other(outs), shifted)
            self.assertEqual(net.rows(), again.rows())
            self.assertTrue(net == again)

    def test_a_long_chain_that_is_used_from_its_end(self):
        many = 3000
        terms = [("a", ())] + [("f", (n, n, n)) for n in range(many)]
        net = Net(["x"], [("g", "f", [("x", [many]), ("g", [0])])], [("g", [many, 5])], terms + terms[:1])
        self.assertEqual(terms, net.terms())
        self.assertEqual([("x", [many]), ("g", [0])], net.edges("g"))


class TestParts(unittest.TestCase):

    def test_inputs_and_names_in_their_order(self):
        net = wide_net()
        self.assertEqual((["y", "x"], ["p", "q", "r"]), (net.inputs(), net.names()))
        self.assertEqual(([], []), (Net([], [], []).inputs(), Net([], [], []).names()))

    def test_edges_and_symbols(self):
        net = wide_net()
        self.assertEqual([("x", [0, 1]), ("q", [2])], net.edges("p"))
        self.assertEqual([("p", []), ("x", []), ("p", [1, 1, 0])], net.edges("q"))
        self.assertEqual(["f", "g", "f"], [net.symbol(name) for name in net.names()])
        self.assertEqual([("r", []), ("x", [2]), ("q", [0, 0, 0, 0]), ("q", [])], net.outs())

    def test_rows(self):
        net = small_net()
        rows = (["x"], [("g", "f", [("x", []), ("g", [0])])], [("g", [1])], [("a", ()), ("h", (0,))])
        self.assertEqual(rows, net.rows())
        kinds = [item.__class__ for item in (net.rows(), *net.rows(), net.rows()[1][0], net.rows()[2][0])]
        self.assertEqual([tuple, list, list, list, list, tuple, tuple], kinds)
        self.assertIs(tuple, net.terms()[1][1].__class__)
        self.assertIs(list, net.edges("g")[1][1].__class__)

    def test_unknown_gates(self):
        net = wide_net()
        for value in no_names() + ["x", "y", "a", "f", "pp"]:
            check_raises(self, UnknownGate, {"name": value}, net.edges, value)
            check_raises(self, UnknownGate, {"name": value}, net.symbol, name=value)
            check_raises(self, UnknownGate, {"name": value}, lambda name: net[name], value)

    def test_what_is_returned_may_be_changed(self):
        net = wide_net()
        calls = [
            (net.inputs, []), (net.names, []), (net.edges, ["p"]), (net.edges, ["q"]), (net.outs, []),
            (net.terms, []), (net.rows, []), (net.readers, ["q"]), (net.__getitem__, ["q"]),
        ]
        for call, arguments in calls:
            told = check_new(self, call, *arguments)
            spoil(call(*arguments))
            self.assertEqual(told, call(*arguments))
        self.assertEqual(wide_net().rows(), net.rows())


class TestReaders(unittest.TestCase):

    def test_document(self):
        net = small_net()
        self.assertEqual([[("g", 1), (0, 0)], 1, "g"], [net.readers("g"), net.delays("g", 1), net.source(0, 0)])

    def test_gates_come_before_outs(self):
        net = wide_net()
        self.assertEqual([("p", 0), ("q", 1), (1, 0)], net.readers("x"))
        self.assertEqual([("q", 0), ("q", 2)], net.readers("p"))
        self.assertEqual([("p", 1), ("r", 0), (2, 0), (3, 0)], net.readers("q"))
        self.assertEqual([], net.readers("y"))
        self.assertEqual([(0, 0)], net.readers(name="r"))

    def test_delays_and_sources(self):
        net = wide_net()
        edges = [("p", 0), ("p", 1), ("q", 0), ("q", 1), ("q", 2), ("r", 0), (0, 0), (1, 0), (2, 0), (3, 0)]
        self.assertEqual([2, 1, 0, 0, 3, 0, 0, 1, 4, 0], [net.delays(*edge) for edge in edges])
        self.assertEqual(list("xqpxpqrxqq"), [net.source(*edge) for edge in edges])
        self.assertEqual((3, "p"), (net.delays(slot=2, reader="q"), net.source(slot=2, reader="q")))

    def test_they_tell_the_same_as_the_rows(self):
        for net in many_nets():
            inputs, gates, outs, _ = net.rows()
            edges = [(name, slot, edge) for name, _, inner in gates for slot, edge in enumerate(inner)]
            edges += [(number, 0, edge) for number, edge in enumerate(outs)]
            for name in inputs + net.names():
                self.assertEqual([(r, s) for r, s, edge in edges if edge[0] == name], net.readers(name))
            for reader, slot, (source, starts) in edges:
                self.assertEqual((source, len(starts)), (net.source(reader, slot), net.delays(reader, slot)))

    def test_unknown_sources(self):
        for value in no_names() + ["a", "f", "pp", 0]:
            check_raises(self, UnknownSource, {"name": value}, wide_net().readers, value)

    def check_no_edge(self, net, reader, slot):
        check_raises(self, UnknownEdge, {"reader": reader, "slot": slot}, net.delays, reader, slot)
        check_raises(self, UnknownEdge, {"reader": reader, "slot": slot}, net.source, slot=slot, reader=reader)

    def test_unknown_readers(self):
        net = wide_net()
        readers = [value for value in any_values() if value.__class__ is not int or value not in range(4)]
        for reader in readers + ["x", "y", 4, -1, -4, "pp", "0", ("p",), [0], True, False]:
            for slot in (0, 1, None):
                self.check_no_edge(net, reader, slot)

    def test_unknown_slots(self):
        net = wide_net()
        for reader, many in (("p", 2), ("q", 3), ("r", 1), (0, 1), (1, 1), (3, 1)):
            for slot in no_indices(many):
                self.check_no_edge(net, reader, slot)

    def test_no_outs(self):
        for net in (Net([], [], []), Net(["x"], [], [])):
            for reader in any_values():
                self.check_no_edge(net, reader, 0)


class TestSigns(unittest.TestCase):

    def test_len(self):
        self.assertEqual([0, 0, 1, 3], [len(net) for net in (Net([], [], []), Net(["x"], [], []), small_net(), wide_net())])

    def test_in(self):
        net = wide_net()
        for name in ("x", "y", "p", "q", "r"):
            self.assertIs(True, name in net)
        for value in no_names() + ["a", "f", "h", "pp", 0, ("p",), ["p"]]:
            self.assertIs(False, value in net)
        for value in any_values():
            self.assertIs(False, value in Net([], [], []))

    def test_item(self):
        self.assertEqual(("g", [("p", []), ("x", []), ("p", [1, 1, 0])]), wide_net()["q"])
        self.assertIs(tuple, wide_net()["q"].__class__)
        for net in many_nets():
            for name in net.names():
                self.assertEqual((net.symbol(name), net.edges(name)), net[name])

    def test_a_network_is_not_iterated_over(self):
        with self.assertRaises(TypeError):
            list(wide_net())

    def test_equal(self):
        self.assertTrue(small_net() == small_net())
        self.assertFalse(small_net() != small_net())
        self.assertTrue(Net([], [], []) == Net((), (), (), [("a", ())]))
        for net in many_nets():
            self.assertTrue(net == Net(*net.rows()))

    def test_unequal(self):
        inputs, gates, outs, terms = (["x"], [("g", "f", [("x", []), ("g", [0])])], [("g", [1])], [("a", ()), ("b", ())])
        base = Net(inputs, gates, outs, terms)
        others = [
            Net(["x", "y"], gates, outs, terms), Net(inputs, gates, outs + outs, terms),
            Net(inputs, [("g", "f", [("x", []), ("g", [1])])], outs, terms),
            Net(inputs, [("g", "f", [("g", [0]), ("x", [])])], outs, terms),
            Net(inputs, [("g", "f", [("x", [])])], outs, terms),
            Net(inputs, [("g", "h", [("x", []), ("g", [0])])], outs, terms),
            Net(inputs, [("h", "f", [("x", []), ("h", [0])])], [("h", [1])], terms),
            Net(inputs, gates, [("g", [0])], terms), Net(inputs, gates, [("g", [1]), ("x", [])], terms),
            Net(inputs, gates, [("g", [1, 1])], terms), Net(inputs, gates, outs, [("a", ()), ("c", ())]),
            Net(inputs, gates, outs, [("a", ()), ("b", (0,))]), Net([], [], []), wide_net(),
        ]
        for other in others:
            self.assertTrue(base != other)
            self.assertFalse(base == other)

    def test_the_order_of_inputs_gates_and_outs_counts(self):
        gates = [("p", "f", [("x", [])]), ("q", "f", [("y", [])])]
        outs = [("p", []), ("q", [])]
        base = Net(["x", "y"], gates, outs)
        self.assertTrue(base != Net(["y", "x"], gates, outs))
        self.assertTrue(base != Net(["x", "y"], gates[::-1], outs))
        self.assertTrue(base != Net(["x", "y"], gates, outs[::-1]))

    def test_unequal_to_all_that_is_no_network(self):
        net = small_net()
        others = [value for value in any_values() if not isinstance(value, Net)]
        others += [net.rows(), list(net.rows()), Book(net.terms()), Machine(Net([], [], []), {})]
        for other in others:
            self.assertFalse(net == other)
            self.assertTrue(net != other)
            self.assertFalse(other == net)


if __name__ == "__main__":
    unittest.main()
