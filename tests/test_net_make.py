"""[31]: what networks are made of, and which lists make none."""

import copy
import unittest

from helpers import any_values, check_order, check_raises, no_indices, no_lists, no_names, small_net
from model import many_nets
from toldpast.errors import Dry, Duplicate, Idle, InvalidEdge, InvalidName, InvalidPart, InvalidRow, NetError
from toldpast.errors import Ring, UnknownSource
from toldpast.nets import Net


def parts():
    """Parts of a network, with room for one fault at each place."""
    gates = [[f"g{n}", "f", [["x", []]]] for n in range(20)]
    outs = [[f"g{n}", []] for n in range(20)] + [["x", [0]], ["y", [1]], ["z", []]]
    terms = [["a", []], ["f", [0]], ["f", [1, 0]], ["g", [1, 1, 2]], ["b", []], ["c", []]]
    return {"inputs": ["x", "y", "z"], "gates": gates, "outs": outs, "terms": terms}


def whole(part, value):
    def fault(arguments):
        arguments[part] = value
        return InvalidPart, {"value": value}
    return fault


def placed(error, field, place, value, told=None):
    """A fault that puts a value at a place, given by a name and indices, and is told by this value or another one."""
    def fault(arguments):
        inner = arguments
        for index in place[:-1]:
            inner = inner[index]
        inner[place[-1]] = value
        return error, {field: value if told is None else arguments_at(arguments, told)}
    return fault


def arguments_at(arguments, place):
    for index in place:
        arguments = arguments[index]
    return arguments


def ring(names):
    """A fault that joins gates to a ring without delays."""
    def fault(arguments):
        for one, other in zip(names, names[1:] + names[:1]):
            number = int(other[1:])
            arguments["gates"][number] = [other, "f", [["x", [0]], [one, []]]]
        return Ring, {}
    return fault


def dry(number):
    def fault(arguments):
        name = f"g{number}"
        arguments["gates"][number] = [name, "f", [[name, [0]]]]
        return Dry, {"name": name}
    return fault


def idle(number):
    def fault(arguments):
        name = f"g{number}"
        arguments["gates"][number] = [name, "f", [["x", [0]]]]
        arguments["outs"][number] = ["x", []]
        return Idle, {"name": name}
    return fault


FAULTS = [
    whole("inputs", {"x": 1}), whole("gates", "abc"), whole("outs", None), whole("terms", 5),
    placed(InvalidName, "value", ["inputs", 1], "Y"),
    placed(Duplicate, "name", ["inputs", 2], "x"),
    placed(InvalidPart, "value", ["gates", 0], ("g0", "f")),
    placed(InvalidName, "value", ["gates", 1, 0], 7),
    placed(Duplicate, "name", ["gates", 2, 0], "y"),
    placed(Duplicate, "name", ["gates", 3, 0], "g0"),
    placed(InvalidName, "value", ["gates", 4, 1], None),
    placed(InvalidPart, "value", ["gates", 5, 2], "x"),
    placed(InvalidPart, "value", ["gates", 6, 2], []),
    placed(InvalidPart, "value", ["gates", 7, 2], [("x", [])] * 4),
    placed(InvalidRow, "value", ["terms", 0], ("a",)),
    placed(InvalidRow, "value", ["terms", 1, 1], None, told=["terms", 1]),
    placed(InvalidRow, "value", ["terms", 2, 1], [0] * 4, told=["terms", 2]),
    placed(InvalidName, "value", ["terms", 3, 0], "F"),
    placed(InvalidRow, "value", ["terms", 4, 1], [4], told=["terms", 4]),
    placed(InvalidRow, "value", ["terms", 5, 1], [True], told=["terms", 5]),
    placed(InvalidEdge, "value", ["gates", 8, 2, 0], ("x",)),
    placed(InvalidEdge, "value", ["gates", 9, 2, 0, 1], 0, told=["gates", 9, 2, 0]),
    placed(UnknownSource, "name", ["gates", 10, 2, 0, 0], "w"),
    placed(InvalidEdge, "value", ["gates", 11, 2, 0, 1], [6], told=["gates", 11, 2, 0]),
    placed(InvalidEdge, "value", ["outs", 20], {}),
    placed(UnknownSource, "name", ["outs", 21, 0], ["x"]),
    placed(InvalidEdge, "value", ["outs", 22, 1], [0, -1], told=["outs", 22]),
    dry(12), dry(13), idle(14), idle(15),
]


class TestOrder(unittest.TestCase):

    def test_the_earlier_one_of_two_faults_is_told(self):
        Net(**parts())
        check_order(self, parts, FAULTS, Net)

    def test_a_ring_is_told_before_dry_and_idle_gates(self):
        for fault in (dry(12), idle(14)):
            arguments = parts()
            fault(arguments)
            ring(["g16", "g17", "g18"])(arguments)
            with self.assertRaises(Ring) as caught:
                Net(**arguments)
            self.assertEqual(3, len(caught.exception.gates))

    def test_an_edge_is_told_before_a_ring(self):
        arguments = parts()
        ring(["g16", "g17"])(arguments)
        arguments["outs"][22] = ["z", [6]]
        check_raises(self, InvalidEdge, {"value": arguments["outs"][22]}, Net, **arguments)

    def test_items_are_checked_one_after_the_other(self):
        check_raises(self, Duplicate, {"name": "x"}, Net, ["x", "x", 5], [], [])
        check_raises(self, InvalidName, {"value": 5}, Net, ["x", 5, "x"], [], [])
        good = ("g", "f", [("x", [])])
        four = [("x", [])] * 4
        check_raises(self, InvalidPart, {"value": four}, Net, ["x"], [("g", "f", four), ("1", "f", [])], [])
        check_raises(self, InvalidName, {"value": "1"}, Net, ["x"], [good, ("h", "1", None), None], [])
        edge, item = ("x", [0]), ("b", [7])
        check_raises(self, InvalidRow, {"value": item}, Net, ["x"], [], [], [("a", ()), item, ("1", ())])
        check_raises(self, InvalidName, {"value": "1"}, Net, ["x"], [], [], [("1", ()), item])
        check_raises(self, InvalidEdge, {"value": edge}, Net, ["x"], [], [edge, ("y", [])])
        check_raises(self, UnknownSource, {"name": "y"}, Net, ["x"], [], [("y", []), edge])

    def test_within_one_gate(self):
        for item, error, fields in (
                (("1", "2", []), InvalidName, {"value": "1"}), (("x", "2", []), Duplicate, {"name": "x"}),
                (("g", "2", []), InvalidName, {"value": "2"}), (("1", "2", [], 3), InvalidPart, None)):
            check_raises(self, error, fields or {"value": item}, Net, ["x"], [item], [("y", [])], [None])

    def test_within_one_row(self):
        for item, error, value in (
                (("1", [0, 0, 0, 0]), InvalidRow, None), (("1", None), InvalidRow, None),
                (("1", [0]), InvalidName, "1"), (("1", [], []), InvalidRow, None)):
            check_raises(self, error, {"value": value or item}, Net, ["x"], [], [], [item])

    def test_within_one_edge(self):
        edge = ("y", None)
        check_raises(self, InvalidEdge, {"value": edge}, Net, ["x"], [], [edge])
        check_raises(self, UnknownSource, {"name": "y"}, Net, ["x"], [], [("y", [None])])

    def test_the_first_dry_gate_and_the_first_idle_gate(self):
        gates = [("p", "f", [("x", [])]), ("r", "f", [("s", [0])]), ("s", "f", [("r", [0])])]
        outs = [("p", []), ("r", [])]
        check_raises(self, Dry, {"name": "r"}, Net, ["x"], gates, outs, [("a", ())])
        check_raises(self, Dry, {"name": "s"}, Net, ["x"], gates[::-1], outs, [("a", ())])
        gates = [("p", "f", [("x", [])]), ("q", "f", [("x", [])]), ("r", "f", [("q", [])])]
        check_raises(self, Idle, {"name": "q"}, Net, ["x"], gates, [("p", [])])
        check_raises(self, Idle, {"name": "r"}, Net, ["x"], gates[::-1], [("p", [])])


class TestWrongValues(unittest.TestCase):

    def test_no_lists(self):
        for value in no_lists():
            check_raises(self, InvalidPart, {"value": value}, Net, value, [], [])
            check_raises(self, InvalidPart, {"value": value}, Net, [], value, [])
            check_raises(self, InvalidPart, {"value": value}, Net, [], [], value)
            check_raises(self, InvalidPart, {"value": value}, Net, [], [], [], value)
            check_raises(self, InvalidPart, {"value": value}, Net, terms=value, outs=[], gates=[], inputs=[])
            check_raises(self, InvalidPart, {"value": value}, Net, ["x"], [("g", "f", value)], [("g", [])])

    def test_no_names(self):
        for value in no_names():
            check_raises(self, InvalidName, {"value": value}, Net, ["x", value], [], [])
            check_raises(self, InvalidName, {"value": value}, Net, ["x"], [(value, "f", [("x", [])])], [("x", [])])
            check_raises(self, InvalidName, {"value": value}, Net, ["x"], [("g", value, [("x", [])])], [("g", [])])
            check_raises(self, InvalidName, {"value": value}, Net, ["x"], [], [], [("a", ()), (value, [0])])

    def test_no_sources(self):
        for value in no_names() + ["a", "f", "gg", "xx"]:
            check_raises(self, UnknownSource, {"name": value}, Net, ["x"], [("g", "f", [(value, [])])], [("g", [])])
            check_raises(self, UnknownSource, {"name": value}, Net, ["x"], [], [("x", []), (value, [])], [("a", ())])

    def test_no_gates(self):
        edges = [("x", [])]
        for item in any_values() + ["gfx", ("g", "f"), ("g", "f", edges, edges), {"g": 1, "f": 2, "x": 3}]:
            check_raises(self, InvalidPart, {"value": item}, Net, ["x"], [("h", "f", edges), item], [("h", [])])

    def test_no_edges(self):
        wrong = [value for value in any_values() if not isinstance(value, (list, tuple)) or len(value) != 2]
        wrong += [("x", value) for value in no_lists()] + [("x", [], []), ("x",), "xa", {"x": [], "y": []}]
        for item in wrong:
            check_raises(self, InvalidEdge, {"value": item}, Net, ["x"], [("g", "f", [("x", []), item])], [("g", [])])
            check_raises(self, InvalidEdge, {"value": item}, Net, ["x"], [], [("x", []), item])

    def test_no_starts(self):
        for value in no_indices(2):
            for starts in ([value], (0, value), [1, value, 0]):
                item = ("x", starts)
                terms = [("a", ()), ("b", ())]
                check_raises(self, InvalidEdge, {"value": item}, Net, ["x"], [("g", "f", [item])], [("g", [])], terms)
                check_raises(self, InvalidEdge, {"value": item}, Net, ["x"], [], [item], terms)

    def test_no_start_without_terms(self):
        item = ["x", [0]]
        check_raises(self, InvalidEdge, {"value": item}, Net, ["x"], [], [item])

    def test_no_rows(self):
        wrong = [value for value in any_values() if not isinstance(value, (list, tuple)) or len(value) != 2]
        wrong += [("f", value) for value in no_lists()] + [("f", [0] * 4), ("f",), ("f", [0], [0]), "fa", ("x", 0)]
        wrong += [("f", (value,)) for value in no_indices(1)] + [("f", (0, 1)), ("f", [0, 0, -1])]
        for item in wrong:
            check_raises(self, InvalidRow, {"value": item}, Net, ["x"], [], [], [("a", ()), item])

    def test_duplicate_names(self):
        late = "".join(["x", "1"])
        check_raises(self, Duplicate, {"name": late}, Net, ["x1", "y", late], [], [])
        gate = (late, "f", [("y", [])])
        # The input x1 comes nowhere else.
        check_raises(self, Duplicate, {"name": late}, Net, ["x1", "y"], [gate], [("y", [])])
        check_raises(self, Duplicate, {"name": late}, Net, ["y"], [("x1", "f", [("y", [])]), gate], [("x1", [])])


class TestRings(unittest.TestCase):

    def check_ring(self, inputs, gates, outs, terms=()):
        with self.assertRaises(Ring) as caught:
            Net(inputs, gates, outs, terms)
        names = caught.exception.gates
        self.assertIs(list, names.__class__)
        self.assertEqual({"gates": names}, vars(caught.exception))
        edges = {name: inner for name, _, inner in gates}
        self.assertEqual(len(names), len(set(names)))
        self.assertTrue(names)
        for one, other in zip(names, names[1:] + names[:1]):
            self.assertIn(one, [source for source, starts in edges[other] if not starts])
        return names

    def test_one_gate(self):
        for edges in ([("g", []), ("x", [])], [("x", []), ("g", [])], [("x", []), ("g", [0]), ("g", [])]):
            self.assertEqual(["g"], self.check_ring(["x"], [("g", "f", edges)], [("g", [])], [("a", ())]))

    def test_three_gates_in_any_order(self):
        gates = [("p", "f", [("x", []), ("r", [])]), ("q", "f", [("p", []), ("x", [0])]),
                 ("r", "f", [("x", [0]), ("x", [0]), ("q", [])])]
        for turned in range(3):
            order = gates[turned:] + gates[:turned]
            self.assertEqual(["p", "q", "r"], sorted(self.check_ring(["x"], order, [("r", [])], [("a", ())])))
            self.assertEqual(["p", "q", "r"], sorted(self.check_ring(["x"], order[::-1], [("r", [])], [("a", ())])))

    def test_gates_before_and_behind_a_ring_are_not_in_it(self):
        gates = [("i", "f", [("x", [])]), ("p", "f", [("i", []), ("q", [])]), ("q", "f", [("p", [])]),
                 ("o", "f", [("q", [])]), ("z", "f", [("o", []), ("z", [0])])]
        for order in (gates, gates[::-1], gates[2:] + gates[:2]):
            self.assertEqual(["p", "q"], sorted(self.check_ring(["x"], order, [("z", [])], [("a", ())])))

    def test_two_rings_that_share_a_gate(self):
        gates = [("p", "f", [("q", []), ("r", []), ("x", [])]), ("q", "f", [("p", [])]), ("r", "f", [("p", [])])]
        for order in (gates, gates[::-1]):
            self.assertEqual(2, len(self.check_ring(["x"], order, [("r", [])])))

    def test_a_ring_of_eight_gates(self):
        gates = [(f"g{n}", "f", [("x", []), (f"g{(n + 1) % 8}", [])]) for n in range(8)]
        self.assertEqual(8, len(self.check_ring(["x"], gates, [("g0", [])])))
        gates[5][2][1][1].append(0)
        self.assertEqual(8, len(Net(["x"], gates, [("g0", [])], [("a", ())])))

    def test_a_ring_that_is_dry_and_idle(self):
        self.assertEqual(["g"], self.check_ring([], [("g", "f", [("g", [])])], []))


class TestAccepted(unittest.TestCase):

    def test_document(self):
        net = Net(["x"], [("g", "f", [("x", []), ("g", [0])])], [("g", [1])], [("a", ()), ("h", (0,))])
        self.assertEqual(1, len(net))
        with self.assertRaises(Ring) as caught:
            Net(["x"], [("g", "f", [("x", []), ("g", [])])], [("g", [])])
        self.assertEqual(["g"], caught.exception.gates)

    def test_nothing(self):
        for net in (Net([], [], []), Net((), (), (), ()), Net(outs=[], gates=(), inputs=[], terms=[])):
            self.assertEqual(([], [], [], []), net.rows())

    def test_inputs_that_nothing_reads_and_outs_without_gates(self):
        self.assertEqual((["x", "y"], [], [], []), Net(["x", "y"], [], []).rows())
        self.assertEqual((["x"], [], [("x", []), ("x", [])], []), Net(["x"], [], [("x", []), ["x", ()]]).rows())

    def test_the_first_and_the_last_that_is_accepted(self):
        name = "abcdefg8"
        terms = [("a", ()), ("f", (0,)), ("f", (1, 0)), (name, (2, 2, 0))]
        gates = [(name, "a", [("x", [3, 0])]), ("z", "f", [("x", []), (name, []), ("z", [0] * 30)])]
        net = Net(["x"], gates, [("z", [3])], terms)
        self.assertEqual([2, 30, 1], [net.delays(name, 0), net.delays("z", 2), net.delays(0, 0)])

    def test_lists_and_tuples_stand_for_each_other(self):
        lists = Net(["x"], [["g", "f", [["x", []], ["g", [0]]]]], [["g", [1]]], [["a", []], ["h", [0]]])
        tuples = Net(("x",), (("g", "f", (("x", ()), ("g", (0,)))),), (("g", (1,)),), (("a", ()), ("h", (0,))))
        self.assertEqual(small_net().rows(), lists.rows())
        self.assertEqual(small_net().rows(), tuples.rows())
        self.assertTrue(lists == tuples == small_net())

    def test_what_is_passed_is_neither_changed_nor_kept(self):
        for made in (parts, lambda: dict(zip(["inputs", "gates", "outs", "terms"], small_net().rows()))):
            arguments = made()
            before = copy.deepcopy(arguments)
            net = Net(**arguments)
            told = net.rows()
            self.assertEqual(before, arguments)
            arguments["inputs"].reverse()
            arguments["gates"][0][2].reverse()
            arguments["gates"][0][2][0][1].append(0)
            arguments["outs"].clear()
            arguments["terms"].clear()
            arguments["gates"].pop()
            self.assertEqual(told, net.rows())

    def test_a_refused_call_changes_nothing(self):
        for fault in FAULTS:
            arguments = parts()
            fault(arguments)
            before = copy.deepcopy(arguments)
            with self.assertRaises((NetError, UnknownSource)):
                Net(**arguments)
            self.assertEqual(before, arguments)

    def test_a_symbol_may_have_the_name_of_an_input_or_a_gate(self):
        net = Net(["x"], [("f", "x", [("x", [0])])], [("f", [1])], [("f", ()), ("x", (0,))])
        self.assertEqual([("f", ()), ("x", (0,))], net.terms())
        self.assertEqual("x", net.symbol("f"))

    def test_a_net_can_be_made_of_its_rows(self):
        for net in many_nets():
            self.assertEqual(net.rows(), Net(*net.rows()).rows())

    def test_more_gates_and_terms_than_a_network_that_is_passed_has(self):
        many = 300
        gates = [(f"g{n}", "f", [("x" if n == 0 else f"g{n - 1}", [])]) for n in range(many)]
        terms = [("a", ())] + [("f", (n, n)) for n in range(5000)]
        for order in (gates, gates[::-1]):
            net = Net(["x"], order, [(f"g{many - 1}", [5000])], terms)
            self.assertEqual((many, terms), (len(net), net.terms()))


if __name__ == "__main__":
    unittest.main()
