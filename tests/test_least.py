"""[61], [62]: the distances of gates, and networks whose gates work as early as the inputs permit."""

import unittest

from helpers import check_new, check_raises, limit_seconds, no_nets, small_net, spoil
from model import Model, answers_of, early_ring_net, given_rows, many_nets, mixing_meaning, rings_net
from toldpast.errors import InvalidNet
from toldpast.least import advanced, canonical, classes, distances, least
from toldpast.nets import Net
from toldpast.runs import Machine, answers


def one_gate():
    return Net(["x"], [("g", "f", [("x", [0])])], [("g", [1])], [("a", ()), ("b", ())])


def two_inputs():
    """A network with a gate that one input reaches early and the other one late, and gates behind it."""
    gates = [
        ("r", "k", [("q", [0]), ("p", [1, 1, 1])]), ("p", "f", [("x", [0, 1]), ("y", [1, 0, 0])]),
        ("q", "g", [("p", [2]), ("r", [3, 0, 0])]),
    ]
    terms = [("a", ()), ("b", ()), ("h", (0,)), ("h", (2,))]
    return Net(["x", "y"], gates, [("r", [0]), ("p", []), ("q", [1, 2]), ("x", [3])], terms)


def plain_distances(net):
    """The smallest number of delays of ways of any length up to the number of gates."""
    inputs, gates, _, _ = net.rows()
    known = [(name, 0) for name in inputs]
    for _ in gates:
        more = []
        for name, _, edges in gates:
            for source, starts in edges:
                more += [(name, many + len(starts)) for place, many in known if place == source]
        known = list(set(known + more))
        known = [(name, many) for name, many in known if many == min(m for n, m in known if n == name)]
    return {name: many for name, many in known if name not in inputs}


class TestDistances(unittest.TestCase):

    def test_document(self):
        self.assertEqual({"g": 1}, distances(one_gate()))

    def test_the_smallest_number_of_delays(self):
        self.assertEqual({"p": 2, "q": 3, "r": 4}, distances(two_inputs()))
        self.assertEqual({"g": 0}, distances(small_net()))
        self.assertEqual({}, distances(Net([], [], [])))
        self.assertEqual({"p": 5, "q": 5, "r": 6}, distances(net=early_ring_net(5)))

    def test_a_long_way_round_may_have_fewer_delays(self):
        gates = [(f"g{n}", "f", [(f"g{n + 1}", []), ("x", [0] * 9)]) for n in range(7)] + [("g7", "f", [("x", [0] * 2)])]
        net = Net(["x"], gates, [("g0", [])], [("a", ())])
        self.assertEqual({f"g{n}": 2 for n in range(8)}, distances(net))
        self.assertEqual([f"g{n}" for n in range(8)], list(distances(net)))

    def test_thirty_delays_on_each_edge(self):
        gates = [(f"g{n}", "f", [("x" if n == 0 else f"g{n - 1}", [0] * 30)]) for n in range(8)]
        net = Net(["x"], gates, [("g7", [])], [("a", ())])
        self.assertEqual({f"g{n}": 30 * n + 30 for n in range(8)}, distances(net))

    def test_many_networks(self):
        for net in many_nets():
            self.assertEqual(plain_distances(net), distances(net))

    def test_new_dicts(self):
        net = two_inputs()
        told = check_new(self, distances, net)
        spoil(distances(net))
        self.assertEqual(told, distances(net))


class TestRefused(unittest.TestCase):

    def test_no_network(self):
        for call in (distances, advanced, classes, least, canonical):
            for value in no_nets():
                check_raises(self, InvalidNet, {"value": value}, call, value)
                check_raises(self, InvalidNet, {"value": value}, call, net=value)


class TestAdvanced(unittest.TestCase):

    def test_document(self):
        rows = (["x"], [("g", "f", [("x", [])])], [("g", [0, 2])], [("b", ()), ("a", ()), ("f", (1,))])
        self.assertEqual(rows, advanced(one_gate()).rows())

    def test_gates_of_distance_zero_stay(self):
        for net in (Net([], [], []), small_net(), rings_net(3)):
            self.assertEqual(net, advanced(net))

    def test_a_chain(self):
        gates = [("p", "f", [("x", [0])]), ("q", "g", [("p", [1])])]
        net = Net(["x"], gates, [("q", []), ("p", [1])], [("a", ()), ("b", ())])
        rows = (["x"], [("p", "f", [("x", [])]), ("q", "g", [("p", [])])], [("q", [1, 4]), ("p", [0, 3])],
                [("b", ()), ("g", (0,)), ("a", ()), ("f", (2,)), ("g", (3,))])
        self.assertEqual(rows, advanced(net).rows())

    def test_a_ring_that_the_input_reaches_late(self):
        # The values of the ring at the turns 0 and 1 follow from its starts alone.
        net = Net(["x"], [("p", "f", [("x", [0, 1]), ("p", [2])])], [("p", [])], [("a", ()), ("b", ()), ("c", ())])
        terms = [("b", ()), ("a", ()), ("c", ()), ("f", (1, 2)), ("f", (0, 3))]
        rows = (["x"], [("p", "f", [("x", []), ("p", [4])])], [("p", [3, 4])], terms)
        self.assertEqual(rows, advanced(net).rows())

    def check_advanced(self, net):
        """Check each edge of the advanced network by the words of [62]."""
        early = distances(net)
        told = advanced(net)
        numbers = {}
        model, other = Model(net, numbers), Model(told, numbers)
        self.assertEqual((net.inputs(), net.names(), len(net.outs())), (told.inputs(), told.names(), len(told.outs())))
        # Asked turn by turn, the model does not go deep.
        model.answers(max(early.values(), default=0) + 31)
        pairs = []
        for name in net.names():
            self.assertEqual(net.symbol(name), told.symbol(name))
            self.assertEqual(len(net.edges(name)), len(told.edges(name)))
            pairs += [(one, two, early[name]) for one, two in zip(net.edges(name), told.edges(name))]
        pairs += [(one, two, 0) for one, two in zip(net.outs(), told.outs())]
        for one, two, late in pairs:
            self.assertEqual(one[0], two[0])
            self.assertEqual(len(one[1]) + early.get(one[0], 0) - late, len(two[1]))
            delivered = [model.delivered(one, turn + late) for turn in range(len(two[1]))]
            self.assertEqual(delivered, [other.delivered(two, turn) for turn in range(len(two[1]))])
        return told

    def test_each_start_is_the_term_that_the_edge_delivers(self):
        for net in many_nets() + [two_inputs(), one_gate()]:
            told = self.check_advanced(net)
            self.assertEqual({name: 0 for name in net.names()}, distances(told))
            self.assertEqual(told, advanced(told))

    def test_each_gate_has_its_values_earlier_and_the_answers_stay(self):
        for net in many_nets() + [two_inputs()]:
            meaning, rows = mixing_meaning(net), given_rows(net, 60)
            early, told = distances(net), advanced(net)
            self.assertEqual(answers(net, meaning, rows), answers(told, meaning, rows))
            one, two = Machine(net, meaning), Machine(told, meaning)
            values = []
            for row in rows:
                one(row)
                values.append({name: one.value_at(name) for name in net.names()})
            for turn, row in enumerate(rows):
                two(row)
                for name in net.names():
                    if turn + early[name] < len(rows):
                        self.assertEqual(values[turn + early[name]][name], two.value_at(name))

    def test_the_free_answers_stay_at_every_turn_of_a_long_run(self):
        for net in many_nets()[::3] + [two_inputs()]:
            one, two = answers_of([net, advanced(net)], 120)
            self.assertEqual(one, two)

    def test_starts_that_are_large_when_they_are_written_out(self):
        limit_seconds(self, 20)
        gates = [("g0", "f", [("g0", [0]), ("g0", [0]), ("x", [0] * 30)])]
        gates += [(f"g{n}", "f", [(f"g{n - 1}", [0] * 30), (f"g{n}", [1]), (f"g{n}", [1])]) for n in range(1, 8)]
        net = Net(["x"], gates, [("g7", [2] * 30)], [("a", ()), ("b", ()), ("c", ())])
        self.assertEqual(240, distances(net)["g7"])
        told = self.check_advanced(net)
        self.assertEqual(270, told.delays(0, 0))
        self.assertEqual(told, advanced(told))
        self.assertEqual(canonical(net), canonical(told))
        one, two = answers_of([net, told], 300)
        self.assertEqual(one, two)

    def test_nothing_that_is_passed_is_changed(self):
        for net in (two_inputs(), one_gate()):
            before = net.rows()
            for call in (distances, advanced, classes, least, canonical):
                call(net)
                self.assertEqual(before, net.rows())


if __name__ == "__main__":
    unittest.main()
