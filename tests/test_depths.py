"""[81], [82], [83]: how many values from before turn 0 follow from the starts, which ones, and why no more."""

import unittest

from helpers import any_values, check_new, check_order, check_raises, limit_seconds, no_nets, small_net, spoil
from kin import chain_net, deep_nets
from model import Model
from toldpast.depths import bar, depths, past
from toldpast.errors import InvalidNet, UnknownGate
from toldpast.least import advanced, distances
from toldpast.nets import Net, renamed


class PlainPasts:
    """The past values by the words of [81]; equal terms are one number."""

    def __init__(self, net):
        self.net = net
        self.model = Model(net)
        self.rows = {number: row for row, number in self.model.numbers.items()}
        self.known = {}

    def tells(self, reader, slot, turn):
        """What an edge tells as a past value of its source, or None."""
        delays = self.net.delays(reader, slot)
        _, starts = self.net.edges(reader)[slot] if reader in self.net else self.net.outs()[reader]
        if turn <= delays:
            return self.model.starts[starts[delays - turn]]
        if reader not in self.net:
            return None
        value = self.value(reader, turn - delays)
        return None if value is None else self.rows[value][1][slot]

    def value(self, gate, turn):
        """A past value of a gate, or None."""
        if turn > 1 and self.value(gate, turn - 1) is None:
            return None
        if (gate, turn) not in self.known:
            told = [self.tells(reader, slot, turn) for reader, slot in self.net.readers(gate)]
            same = None not in told and len(set(told)) == 1
            self.known[gate, turn] = told[0] if same and self.has_form(gate, told[0]) else None
        return self.known[gate, turn]

    def has_form(self, gate, number):
        """Whether a term has the symbol of a gate."""
        head, below = self.rows[number]
        return (head, len(below)) == (self.net.symbol(gate), len(self.net.edges(gate)))

    def depth(self, gate):
        depth = 0
        while self.value(gate, depth + 1) is not None:
            depth += 1
        return depth


def two_deep():
    """The network of the document."""
    terms = [("a", ()), ("f", (0,)), ("b", ()), ("f", (2,))]
    return Net(["x"], [("p", "f", [("x", [0])]), ("q", "f", [("p", [1])])], [("q", [3])], terms)


def delays_to_out(net):
    """The smallest number of delays of a way from each gate to an out."""
    found = {}
    for _ in range(len(net) + 1):
        for name in net.names():
            ways = [net.delays(reader, slot) + found.get(reader, 0) for reader, slot in net.readers(name)
                    if reader in found or reader not in net]
            if ways:
                found[name] = min(ways)
    return found


class TestDepths(unittest.TestCase):

    def test_document(self):
        net = two_deep()
        told = [depths(net), past(net, "q"), past(net, "p")]
        rows = [("b", ()), ("f", (0,))], [("a", ()), ("f", (0,))]
        self.assertEqual([{"p": 1, "q": 1}, (rows[0], [1]), (rows[1], [1])], told)

    def test_no_gates(self):
        self.assertEqual({}, depths(Net([], [], [])))
        self.assertEqual({}, depths(net=Net(["x"], [], [("x", [])])))

    def test_depth_zero(self):
        net = Net(["x"], [("g", "f", [("x", [])])], [("g", [])])
        self.assertEqual([{"g": 0}, ([], [])], [depths(net), past(net, "g")])
        net = Net(["x"], [("g", "f", [("x", [])])], [("g", [0])], [("a", ())])
        self.assertEqual([{"g": 0}, ([], [])], [depths(net), past(net, "g")])

    def test_the_starts_are_told_the_last_one_first(self):
        terms = [("a", ()), ("b", ()), ("f", (0,)), ("f", (1,))]
        net = Net(["x"], [("g", "f", [("x", [])])], [("g", [2, 3, 2])], terms)
        self.assertEqual([{"g": 3}, ([("a", ()), ("f", (0,)), ("b", ()), ("f", (2,))], [1, 3, 1])],
                         [depths(net), past(net, "g")])

    def test_a_wrong_term_ends_it_for_good(self):
        terms = [("a", ()), ("f", (0,)), ("g", (0,))]
        net = Net(["x"], [("g", "f", [("x", [])])], [("g", [1, 2, 1])], terms)
        self.assertEqual({"g": 1}, depths(net))
        net = Net(["x"], [("g", "f", [("x", [])])], [("g", [1, 1, 2])], terms)
        self.assertEqual({"g": 0}, depths(net))

    def test_another_number_of_arguments_is_another_symbol(self):
        for row, depth in (((), 0), ((0,), 0), ((0, 0), 1), ((0, 0, 0), 0)):
            terms = [("a", ()), ("f", row)]
            net = Net(["x"], [("g", "f", [("x", []), ("x", [])])], [("g", [1])], terms)
            self.assertEqual({"g": depth}, depths(net))

    def test_edges_that_tell_unlike_terms(self):
        terms = [("a", ()), ("b", ()), ("f", (0,)), ("f", (1,))]
        gate = [("g", "f", [("x", [])])]
        self.assertEqual({"g": 1}, depths(Net(["x"], gate, [("g", [2, 2]), ("g", [3, 2])], terms)))
        self.assertEqual({"g": 2}, depths(Net(["x"], gate, [("g", [3, 2]), ("g", [2, 3, 2])], terms)))
        self.assertEqual({"g": 0}, depths(Net(["x"], gate, [("g", [2]), ("g", [])], terms)))

    def test_a_gate_that_reads_itself(self):
        # The starts of the ring tell what the gate was, and then what it had read before.
        terms = [("a", ()), ("b", ()), ("f", (0, 1)), ("f", (0, 2)), ("f", (0, 3))]
        net = Net(["x"], [("g", "f", [("x", []), ("g", [4])])], [("g", [2, 3, 4])], terms)
        self.assertEqual([{"g": 3}, (terms, [4, 3, 2])], [depths(net), past(net, "g")])
        other = Net(["x"], [("g", "f", [("x", []), ("g", [4])])], [("g", [3, 2, 4])], terms)
        self.assertEqual([{"g": 1}, ([("g", 2)], "unlike")], [depths(other), bar(other, "g")[:2]])

    def test_rings_tell_the_arguments_of_past_values(self):
        # The edge of the ring tells value 1 as its start, and value 2 as the argument of value 1.
        terms = [("a", ()), ("c", ()), ("f", (0, 1)), ("f", (0, 2))]
        net = Net(["x"], [("g", "f", [("x", []), ("g", [3])])], [("g", [2, 3])], terms)
        self.assertEqual({"g": 2}, depths(net))
        other = Net(["x"], [("g", "f", [("x", []), ("g", [3])])], [("g", [3, 3])], terms)
        self.assertEqual({"g": 1}, depths(other))
        third = Net(["x"], [("g", "f", [("x", []), ("g", [3])])], [("g", [1, 2, 3])], terms)
        self.assertEqual({"g": 2}, depths(third))

    def test_a_gate_that_is_read_by_two_slots_of_one_reader(self):
        terms = [("a", ()), ("b", ()), ("f", (0,)), ("f", (1,)), ("k", (2, 2)), ("k", (2, 3))]
        gates = [("p", "f", [("x", [])]), ("q", "k", [("p", []), ("p", [])])]
        self.assertEqual({"p": 1, "q": 1}, depths(Net(["x"], gates, [("q", [4])], terms)))
        self.assertEqual({"p": 0, "q": 1}, depths(Net(["x"], gates, [("q", [5])], terms)))
        gates = [("p", "f", [("x", [])]), ("q", "k", [("p", [2]), ("p", [])])]
        self.assertEqual({"p": 2, "q": 1}, depths(Net(["x"], [gates[0], ("q", "k", [("p", [2]), ("p", [2])])],
                                                      [("q", [4])], terms)))
        self.assertEqual({"p": 1, "q": 1}, depths(Net(["x"], gates, [("q", [4])], terms)))

    def test_a_chain_of_gates_without_delays(self):
        rows = [("a", ())] + [("f", (n,)) for n in range(8)]
        gates = [(f"g{n}", "f", [("x" if n == 0 else f"g{n - 1}", [])]) for n in range(8)]
        net = Net(["x"], gates, [("g7", [7, 8, 8])], rows)
        self.assertEqual({"g7": 3, "g6": 3, "g5": 3, "g4": 3, "g3": 3, "g2": 3, "g1": 3, "g0": 2}, depths(net))
        # The order of the gates does not matter.
        turned = Net(["x"], gates[::-1], [("g7", [7, 8, 8])], rows)
        self.assertEqual([depths(net), [f"g{n}" for n in range(7, -1, -1)]], [depths(turned), list(depths(turned))])

    def test_inputs_have_no_depth(self):
        net = Net(["x"], [], [("x", [0, 0])], [("x", ())])
        self.assertEqual({}, depths(net))

    def test_many_networks_by_the_words(self):
        deep = 0
        for net in deep_nets():
            plain = PlainPasts(net)
            told = depths(net)
            self.assertEqual({name: plain.depth(name) for name in net.names()}, told)
            self.assertEqual(net.names(), list(told))
            deep += sum(told.values())
            most = delays_to_out(net)
            for name in net.names():
                self.assertLessEqual(told[name], most[name])
        self.assertGreater(deep, 800)

    def test_an_advanced_network_is_as_deep_as_it_has_been_advanced(self):
        for net in deep_nets():
            before, after, moved = depths(net), depths(advanced(net)), distances(net)
            self.assertEqual({name: before[name] + moved[name] for name in net.names()}, after)

    def test_long_ways_back(self):
        limit_seconds(self, 30)
        net = advanced(chain_net(["ab" * 15] * 9, 1))
        self.assertEqual({f"g{n}": 30 * (n + 1) for n in range(8)}, depths(net))
        rows, numbers = past(net, "g7")
        self.assertEqual((240, "f"), (len(numbers), rows[numbers[0]][0]))

    def test_terms_that_are_large_when_they_are_written_out(self):
        limit_seconds(self, 30)
        gates = [(f"g{n}", "f", [(f"g{n}", [0]), (f"g{n}", [0]), ("x" if n == 0 else f"g{n - 1}", [0] * 30)])
                 for n in range(8)]
        net = advanced(Net(["x"], gates, [("g7", [0] * 30)], [("a", ()), ("b", ())]))
        self.assertEqual({f"g{n}": 30 * (n + 1) for n in range(8)}, depths(net))
        rows, numbers = past(net, "g7")
        self.assertEqual(240, len(set(numbers)))
        self.assertEqual(("g7", 241), bar(net, "g7")[0][0])

    def test_new_dicts(self):
        net = two_deep()
        told = check_new(self, depths, net)
        spoil(depths(net))
        self.assertEqual(told, depths(net))


class TestPast(unittest.TestCase):

    def test_rows_in_the_standard_form(self):
        for net in deep_nets()[::2]:
            plain = PlainPasts(net)
            for gate in net.names():
                rows, numbers = past(net, gate)
                self.assertEqual(depths(net)[gate], len(numbers))
                # A wire that has the past values as its only starts has its terms in the standard form of [32].
                wire = Net(["x"], [], [("x", numbers)], rows)
                self.assertEqual((rows, numbers), (wire.terms(), wire.outs()[0][1]))
                model = Model(wire, plain.model.numbers)
                self.assertEqual([plain.value(gate, n + 1) for n in range(len(numbers))],
                                 [model.starts[number] for number in numbers])

    def test_only_the_rows_that_are_needed(self):
        terms = [("a", ()), ("f", (0,)), ("b", ()), ("f", (2,)), ("c", ())]
        gates = [("p", "f", [("x", [0])]), ("q", "f", [("p", [1]), ])]
        net = Net(["x"], gates, [("q", [3]), ("x", [4])], terms)
        self.assertEqual(([("b", ()), ("f", (0,))], [1]), past(gate="q", net=net))

    def test_equal_past_values(self):
        net = Net(["x"], [("g", "f", [("x", [])])], [("g", [1, 1])], [("a", ()), ("f", (0,))])
        self.assertEqual(([("a", ()), ("f", (0,))], [1, 1]), past(net, "g"))

    def test_new_lists(self):
        net = Net(["x"], [("g", "f", [("x", [])])], [("g", [1, 1])], [("a", ()), ("f", (0,))])
        told = check_new(self, past, net, "g")
        spoil(past(net, "g"))
        self.assertEqual(told, past(net, "g"))


class TestBar(unittest.TestCase):

    def check_bar(self, net, gate, plain=None):
        """Check what is told by the words of [83]."""
        plain = PlainPasts(net) if plain is None else plain
        told = depths(net)
        way, kind, edges = bar(net, gate)
        self.assertEqual((gate, told[gate] + 1), way[0])
        for (name, turn), (reader, later) in zip(way, way[1:]):
            self.assertEqual((told[name] + 1, told[reader] + 1), (turn, later))
            self.assertIn(turn - later, [net.delays(*edge) for edge in net.readers(name) if edge[0] == reader])
        name, turn = way[-1]
        self.assertEqual(told[name] + 1, turn)
        for edge in edges:
            self.assertIn(edge, net.readers(name))
        values = [plain.tells(reader, slot, turn) for reader, slot in edges]
        if kind == "out":
            self.assertEqual(1, len(edges))
            self.assertNotIn(edges[0][0], net)
            self.assertLess(net.delays(*edges[0]), turn)
        elif kind == "symbol":
            self.assertEqual(1, len(edges))
            self.assertFalse(plain.has_form(name, values[0]))
        else:
            self.assertEqual(("unlike", 2), (kind, len(edges)))
            self.assertNotIn(None, values)
            self.assertNotEqual(*values)
        return kind, len(way)

    def test_document(self):
        net = two_deep()
        self.assertEqual(([("q", 2)], "out", [(0, 0)]), bar(net, "q"))
        self.assertEqual(([("p", 2)], "symbol", [("q", 0)]), bar(net, "p"))

    def test_each_kind(self):
        terms = [("a", ()), ("f", (0,)), ("f", (1,))]
        gate = [("g", "f", [("x", [])])]
        net = Net(["x"], gate, [("g", [1, 1]), ("g", [2, 1])], terms)
        self.assertEqual([("g", 2)], bar(net, "g")[0])
        self.assertEqual(("unlike", [(0, 0), (1, 0)]), (bar(net, "g")[1], sorted(bar(net, "g")[2])))
        net = Net(["x"], gate, [("g", [0, 1]), ("g", [0, 1])], terms)
        self.assertEqual(([("g", 2)], "symbol"), bar(net, "g")[:2])
        net = Net(["x"], gate, [("g", [1, 1]), ("g", [1])], terms)
        self.assertEqual(([("g", 2)], "out", [(1, 0)]), bar(net, "g"))

    def test_of_many_unlike_terms_two_edges_are_told(self):
        terms = [("a", ()), ("b", ()), ("f", (0,)), ("f", (1,)), ("f", (2,))]
        net = Net(["x"], [("g", "f", [("x", [])])], [("g", [n]) for n in (2, 2, 3, 4, 3)], terms)
        self.assertEqual(("unlike", 1), self.check_bar(net, "g"))

    def test_a_way_over_readers(self):
        terms = [("a", ()), ("f", (0,)), ("f", (1,))]
        gates = [("p", "f", [("x", [])]), ("q", "f", [("p", [])]), ("r", "f", [("q", [1])])]
        net = Net(["x"], gates, [("r", [])], terms)
        self.assertEqual(([("q", 2), ("r", 1)], "out", [(0, 0)]), bar(net, "q"))
        self.assertEqual(([("p", 1)], "symbol", [("q", 0)]), bar(net, "p"))
        net = Net(["x"], gates[:2] + [("r", "f", [("q", [2])])], [("r", [])], terms)
        self.assertEqual(([("p", 2), ("q", 2), ("r", 1)], "out", [(0, 0)]), bar(net, "p"))

    def test_a_way_without_delays(self):
        gates = [(f"g{n}", "f", [("x" if n == 0 else f"g{n - 1}", [])]) for n in range(8)]
        net = Net(["x"], gates, [("g7", [])])
        self.assertEqual(([(f"g{n}", 1) for n in range(3, 8)], "out", [(0, 0)]), bar(net, "g3"))

    def test_many_networks_by_the_words(self):
        kinds = {}
        for net in deep_nets():
            plain = PlainPasts(net)
            for name in net.names():
                kind, length = self.check_bar(net, name, plain)
                kinds.setdefault(kind, []).append(length)
        self.assertEqual({"out", "symbol", "unlike"}, set(kinds))
        for lengths in kinds.values():
            self.assertGreater(max(lengths), 1)

    def test_new_lists(self):
        net = two_deep()
        for gate in ("p", "q"):
            told = check_new(self, bar, net, gate)
            spoil(bar(net, gate))
            self.assertEqual(told, bar(gate=gate, net=net))


class TestRefused(unittest.TestCase):

    def test_no_network(self):
        for value in no_nets():
            check_raises(self, InvalidNet, {"value": value}, depths, value)
            for call in (past, bar):
                check_raises(self, InvalidNet, {"value": value}, call, value, "g")
                check_raises(self, InvalidNet, {"value": value}, call, gate="g", net=value)

    def test_no_gate(self):
        net = renamed(small_net(), {"g": "g", "x": "x1"})
        for value in [value for value in any_values() if value != "g"] + ["x1", "f", "h", "G"]:
            for call in (past, bar):
                check_raises(self, UnknownGate, {"name": value}, call, net, value)
                check_raises(self, UnknownGate, {"name": value}, call, gate=value, net=net)

    def test_the_order_of_the_checks(self):
        def no_net(arguments):
            arguments["net"] = value = [1]
            return InvalidNet, {"value": value}

        def no_gate(arguments):
            arguments["gate"] = value = [2]
            return UnknownGate, {"name": value}
        for call in (past, bar):
            check_order(self, lambda: {"net": small_net(), "gate": "g"}, [no_net, no_gate], call)

    def test_nothing_that_is_passed_is_changed(self):
        net = two_deep()
        before = net.rows()
        depths(net), past(net, "p"), bar(net, "p")
        self.assertEqual(before, net.rows())


if __name__ == "__main__":
    unittest.main()
