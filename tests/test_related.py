"""[95]: whether one network is another one with other lags and other names of gates."""

import random
import unittest

from helpers import check_new, limit_seconds, small_net, spoil
from kin import deep_nets, hastened, kin_pairs, ring_net, wheel_net, wire
from test_lagged import allowed_lags, raised
from toldpast.compare import alike
from toldpast.lags import Lags, lagged, related
from toldpast.least import advanced, canonical
from toldpast.nets import Net, renamed


def ordered(net):
    """A network with its gates in the order of their names."""
    inputs, gates, outs, terms = net.rows()
    return Net(inputs, sorted(gates), outs, terms)


def walked(net, path):
    """The symbols of the gates that a path leads over, its last source, and its delays."""
    out, *slots = path
    source, starts = net.outs()[out]
    symbols, delays = [], len(starts)
    for slot in slots:
        symbols.append((net.symbol(source), len(net.edges(source))))
        source, starts = net.edges(source)[slot]
        delays += len(starts)
    return symbols, source, delays


def same_walks(one, other, paths=None):
    """The dict and the lags that the paths of two networks tell, or None if there are none; by plain search."""
    names, lags = {}, {}
    waiting = [[number] for number in range(len(one.outs()))]
    for path in waiting:
        _, source, delays = walked(one, path)
        _, other_source, other_delays = walked(other, path)
        if (source in one.inputs()) != (other_source in other.inputs()):
            return None
        if source in one.inputs():
            if source != other_source or delays != other_delays:
                return None
        elif (one.symbol(source), len(one.edges(source))) != (other.symbol(other_source), len(other.edges(other_source))):
            return None
        elif source not in names and other_source not in names.values():
            names[source], lags[source] = other_source, delays - other_delays
            waiting += [[*path, slot] for slot in range(len(one.edges(source)))]
        elif names.get(source) != other_source or lags[source] != delays - other_delays:
            return None
    return names, lags


class TestRelated(unittest.TestCase):

    def check_none(self, one, other):
        """Check by the words of [95] that a told reason is one."""
        told, kind, paths = related(one, other)
        self.assertEqual("none", told)
        ends = []
        for path in paths:
            self.assertEqual(list, path.__class__)
            for number in path:
                self.assertIs(int, number.__class__)
            symbols, source, delays = walked(one, path)
            others, other_source, other_delays = walked(other, path)
            self.assertEqual(symbols, others)
            ends.append((source, other_source, delays, other_delays))
        if kind == "sources":
            (source, other_source, _, _), = ends
            if source in one and source not in one.inputs() and other_source not in other.inputs():
                self.assertNotEqual((one.symbol(source), len(one.edges(source))),
                                    (other.symbol(other_source), len(other.edges(other_source))))
            else:
                self.assertTrue(source in one.inputs() or other_source in other.inputs())
                self.assertFalse(source in one.inputs() and source == other_source)
        elif kind == "paired":
            (one_end, other_end, _, _), (one_more, other_more, _, _) = ends
            self.assertTrue((one_end == one_more) != (other_end == other_more))
            for name in (one_end, one_more):
                self.assertIn(name, one.names())
            for name in (other_end, other_more):
                self.assertIn(name, other.names())
        elif kind == "delays" and len(ends) == 1:
            source, other_source, delays, other_delays = ends[0]
            self.assertIn(source, one.inputs())
            self.assertEqual(source, other_source)
            self.assertNotEqual(delays, other_delays)
        elif kind == "delays":
            first, second = ends
            self.assertIn(first[0], one.names())
            self.assertIn(first[1], other.names())
            self.assertEqual(first[:2], second[:2])
            self.assertNotEqual(first[2] - second[2], first[3] - second[3])
        else:
            self.assertEqual(("starts", []), (kind, paths))
            self.assertIsNotNone(same_walks(one, other))
            self.assertFalse(alike(one, other))
        return kind

    def check_lags(self, one, other):
        """Check by the words of [95] that a told pair is one."""
        told, names, lags = related(one, other)
        self.assertEqual(("lags", Lags), (told, lags.__class__))
        self.assertEqual((sorted(one.names()), sorted(other.names())), (sorted(names), sorted(names.values())))
        self.assertEqual(ordered(other), ordered(renamed(lagged(one, lags), names)))
        return names, lags

    def test_document(self):
        terms = [("a", ()), ("f", (0,)), ("b", ()), ("f", (2,))]
        net = Net(["x"], [("p", "f", [("x", [0])]), ("q", "f", [("p", [1])])], [("q", [3])], terms)
        self.assertEqual({"q": 1}, related(net, lagged(net, {"q": 1}))[2].rows())
        self.assertEqual({"p": "p", "q": "q"}, related(net, lagged(net, {"q": 1}))[1])

    def test_changed_names_another_order_and_drawn_lags(self):
        moved = 0
        for seed, net in enumerate(deep_nets()):
            for lags in allowed_lags(net, seed, 2):
                chance = random.Random(seed)
                names = dict(zip(net.names(), chance.sample([f"k{n}" for n in range(8)] + net.names(), len(net))))
                if len(set(names.values()) | set(net.inputs())) < len(net) + len(net.inputs()):
                    continue
                other = renamed(lagged(net, lags), names)
                inputs, gates, outs, terms = other.rows()
                chance.shuffle(gates)
                other = Net(inputs, gates, outs, terms)
                self.assertEqual((names, Lags(lags)), self.check_lags(net, other))
                back = {new: old for old, new in names.items()}
                opposite = Lags({names[name]: -lag for name, lag in lags.items()})
                self.assertEqual((back, opposite), self.check_lags(other, net))
                moved += any(lags.values())
        self.assertGreater(moved, 200)

    def test_each_network_and_itself(self):
        for net in deep_nets()[::3]:
            names, lags = self.check_lags(net, net)
            self.assertEqual(({name: name for name in net.names()}, Lags({})), (names, lags))

    def test_many_pairs(self):
        kinds = []
        pairs = [*kin_pairs(), *[(net, hastened(net)) for net in deep_nets()[::3]]]
        for one, other in pairs:
            found = same_walks(one, other)
            if found is not None and raised(one, found[1]) is None and alike(one, other):
                names, lags = self.check_lags(one, other)
                self.assertEqual((found[0], Lags(found[1])), (names, lags))
                kinds.append("lags")
            else:
                kinds.append(self.check_none(one, other))
        for kind in ("lags", "sources", "paired", "delays", "starts"):
            self.assertGreater(kinds.count(kind), 4, kind)

    def test_networks_without_gates(self):
        self.assertEqual(("lags", {}, Lags({})), related(Net([], [], []), Net([], [], [])))
        self.assertEqual(("lags", {}, Lags({})), related(wire("ab"), wire("ab")))
        self.assertEqual(("none", "starts", []), related(wire("ab"), wire("ac")))
        self.assertEqual(("none", "delays", [[0]]), related(wire("ab"), wire("abc")))
        self.assertEqual(("none", "sources", [[0]]), related(wire("ab"), wire("ab", "y")))

    def test_an_input_and_a_gate(self):
        gate = Net(["x", "y"], [("g", "x", [("x", [])])], [("g", [])])
        self.assertEqual(("none", "sources", [[0]]), related(wire(""), gate))
        self.assertEqual(("none", "sources", [[0]]), related(gate, wire("")))
        # A gate of one network with the name of an input of a gate of the other one is no input.
        deep = Net(["x", "y"], [("g", "x", [("h", [])]), ("h", "x", [("x", [])])], [("g", [])])
        self.assertEqual(("none", "sources", [[0, 0]]), related(gate, deep))

    def test_equal_symbols_in_another_order_and_with_other_names(self):
        one = Net(["x"], [("p", "f", [("x", []), ("q", [0])]), ("q", "f", [("p", []), ("x", [])])], [("p", [])], [("a", ())])
        other = Net(["x"], [("p", "f", [("q", []), ("x", [])]), ("q", "f", [("x", []), ("p", [0])])], [("q", [])], [("a", ())])
        self.assertEqual(({"p": "q", "q": "p"}, Lags({})), self.check_lags(one, other))

    def test_symbols_that_are_unlike(self):
        one = Net(["x"], [("p", "f", [("x", [])])], [("p", [])])
        self.assertEqual(("none", "sources", [[0]]), related(one, Net(["x"], [("p", "g", [("x", [])])], [("p", [])])))
        self.assertEqual(("none", "sources", [[0]]), related(one, Net(["x"], [("p", "f", [("x", []), ("x", [])])], [("p", [])])))

    def test_a_gate_that_would_stand_for_two(self):
        one = Net(["x"], [("p", "f", [("x", [])])], [("p", []), ("p", [])])
        two = Net(["x"], [("p", "f", [("x", [])]), ("q", "f", [("x", [])])], [("p", []), ("q", [])])
        self.assertTrue(alike(one, two))
        self.assertEqual(("none", "paired", [[0], [1]]), related(one, two))
        self.assertEqual(("none", "paired", [[0], [1]]), related(two, one))
        # Behind gates with the same symbol.
        one = Net(["x"], [("r", "k", [("p", []), ("p", [])]), ("p", "f", [("x", [])])], [("r", [])])
        two = Net(["x"], [("r", "k", [("p", []), ("q", [])]), ("p", "f", [("x", [])]), ("q", "f", [("x", [])])], [("r", [])])
        self.assertEqual(("none", "paired", [[0, 0], [0, 1]]), related(one, two))
        self.assertEqual("paired", self.check_none(two, one))
        self.assertEqual("paired", self.check_none(wheel_net("aa"), wheel_net("aaa")))

    def test_delays_that_no_lags_explain(self):
        terms = [("a", ()), ("f", (0,))]
        one = Net(["x"], [("p", "f", [("x", [0])])], [("p", []), ("p", [1])], terms)
        other = Net(["x"], [("p", "f", [("x", [0])])], [("p", [1]), ("p", [1])], terms)
        self.assertEqual("delays", self.check_none(one, other))
        self.assertEqual(("none", "delays", [[0], [1]]), related(one, other))
        longer = Net(["x"], [("p", "f", [("x", [0])])], [("p", [1]), ("p", [1, 1])], terms)
        self.assertEqual(("none", "delays", [[0, 0]]), related(one, longer))

    def test_lags_that_are_not_allowed(self):
        # All delays agree, but the moved gate would be deeper than its starts tell.
        terms = [("a", ()), ("f", (0,)), ("b", ())]
        one = Net(["x"], [("p", "f", [("x", [])])], [("p", [2])], terms)
        other = Net(["x"], [("p", "f", [("x", [0])])], [("p", [])], terms)
        self.assertEqual(("none", "starts", []), related(one, other))
        self.assertEqual(("none", "starts", []), related(other, one))
        fitting = Net(["x"], [("p", "f", [("x", [])])], [("p", [1])], terms)
        self.assertEqual({"p": 1}, self.check_lags(fitting, other)[1].rows())
        self.assertEqual({"p": -1}, self.check_lags(other, fitting)[1].rows())

    def test_starts_that_differ(self):
        self.assertEqual(("none", "starts", []), related(ring_net("a"), ring_net("b")))
        self.assertEqual("lags", related(ring_net("a"), ring_net("a"))[0])

    def test_starts_are_compared_as_terms(self):
        one = Net(["x"], [("p", "f", [("x", [0, 1])]), ("q", "f", [("x", [1])])], [("p", []), ("q", [])], [("a", ()), ("b", ())])
        other = Net(["x"], [("q", "f", [("x", [0])]), ("p", "f", [("x", [1, 0])])], [("p", []), ("q", [])], [("b", ()), ("a", ())])
        self.assertNotEqual(one.terms(), other.terms())
        self.assertEqual(({"p": "p", "q": "q"}, Lags({})), self.check_lags(one, other))

    def test_alike_networks_that_are_not_related(self):
        for net in deep_nets()[::5]:
            small = canonical(net)
            if len(small) < len(net):
                self.check_none(net, small)
            else:
                self.check_lags(net, small)

    def test_long_networks(self):
        limit_seconds(self, 20)
        gates = [(f"g{n}", "f", [(f"g{n}", [0]), (f"g{n}", [0]), ("x" if n == 0 else f"g{n - 1}", [0] * 30)])
                 for n in range(8)]
        net = Net(["x"], gates, [("g7", [0] * 30)], [("a", ())])
        _, lags = self.check_lags(net, advanced(net))
        self.assertEqual({f"g{n}": -30 * (n + 1) for n in range(8)}, lags.rows())

    def test_new_lists_and_dicts(self):
        one = small_net()
        pairs = [(one, one), (wire("ab"), wire("abc")), (wheel_net("aa"), wheel_net("aaa")), (ring_net("a"), ring_net("b")),
                 (wire("ab"), wire("ab", "y"))]
        for pair in pairs:
            told = check_new(self, related, *pair)
            spoil(related(*pair))
            self.assertEqual(told, related(other=pair[1], one=pair[0]))


if __name__ == "__main__":
    unittest.main()
