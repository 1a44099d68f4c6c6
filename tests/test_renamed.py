"""[36]: networks with other names."""

import copy
import unittest

from helpers import any_values, check_new, check_order, check_raises, no_names, no_nets, small_net, spoil
from model import answers_of, many_nets
from toldpast.errors import Duplicate, InvalidName, InvalidNet, InvalidPart, UnknownSource
from toldpast.nets import Net, renamed


def three_net():
    gates = [("p", "f", [("x", [0]), ("q", [1])]), ("q", "g", [("p", []), ("y", [])])]
    return Net(["x", "y"], gates, [("q", []), ("y", [1, 0])], [("a", ()), ("b", ())])


class TestRenamed(unittest.TestCase):

    def test_document(self):
        net = small_net()
        self.assertEqual([("x", "f", [("g", []), ("x", [0])])], renamed(net, {"x": "g", "g": "x"}).rows()[1])

    def test_some_names(self):
        net = renamed(three_net(), {"q": "out", "x": "in"})
        gates = [("p", "f", [("in", [0]), ("out", [1])]), ("out", "g", [("p", []), ("y", [])])]
        self.assertEqual((["in", "y"], gates, [("out", []), ("y", [1, 0])], [("a", ()), ("b", ())]), net.rows())

    def test_exchanged_turned_round_and_as_they_are(self):
        net = three_net()
        turned = renamed(net, {"x": "y", "y": "p", "p": "q", "q": "x"})
        gates = [("q", "f", [("y", [0]), ("x", [1])]), ("x", "g", [("q", []), ("p", [])])]
        self.assertEqual((["y", "p"], gates, [("x", []), ("p", [1, 0])], net.terms()), turned.rows())
        self.assertEqual(net, renamed(turned, {"y": "x", "p": "y", "q": "p", "x": "q"}))
        self.assertEqual(net, renamed(net, {}))
        self.assertEqual(net, renamed(net, {"x": "x", "q": "q"}))

    def test_symbols_are_not_renamed(self):
        net = Net(["x"], [("f", "f", [("x", [0])])], [("f", [])], [("f", ())])
        self.assertEqual(([("h", "f", [("x", [0])])], [("h", [])], [("f", ())]), renamed(net, {"f": "h"}).rows()[1:])

    def test_the_order_of_the_keys_and_the_kind_of_call_do_not_matter(self):
        names = {"x": "y", "y": "x", "q": "z"}
        turned = dict(list(names.items())[::-1])
        self.assertEqual(renamed(three_net(), names), renamed(names=turned, net=three_net()))

    def test_only_names_change_for_many_networks(self):
        for net in many_nets():
            old = net.inputs() + net.names()
            names = {name: f"n{index}" for index, name in enumerate(old)}
            other = renamed(net, names)
            self.assertEqual([names[name] for name in old], other.inputs() + other.names())
            self.assertEqual(net.terms(), other.terms())
            self.assertEqual(net, renamed(other, {new: name for name, new in names.items()}))
            only_gates = renamed(net, {name: names[name] for name in net.names()})
            one, two = answers_of([net, only_gates], 12)
            self.assertEqual(one, two)

    def test_nothing_that_is_passed_is_changed(self):
        net, names = three_net(), {"x": "y", "y": "x"}
        other = renamed(net, names)
        self.assertEqual({"x": "y", "y": "x"}, names)
        self.assertEqual(three_net(), net)
        names["x"] = "z"
        self.assertEqual(["y", "x"], other.inputs())
        spoil(check_new(self, other.rows))
        self.assertEqual(["y", "x"], other.inputs())

    def test_renamed_to_nothing_new_is_another_or_the_same_network(self):
        self.assertEqual(Net([], [], []), renamed(Net([], [], []), {}))


class TestRefused(unittest.TestCase):

    def test_no_network(self):
        for value in no_nets():
            check_raises(self, InvalidNet, {"value": value}, renamed, value, {})

    def test_no_dict(self):
        for value in any_values():
            if not isinstance(value, dict):
                check_raises(self, InvalidPart, {"value": value}, renamed, three_net(), value)

    def test_no_name(self):
        for value in no_names():
            for key in ("x", "y", "p", "q"):
                check_raises(self, InvalidName, {"value": value}, renamed, three_net(), {key: value})

    def test_the_keys_in_the_order_of_inputs_and_gates(self):
        old = ["x", "y", "p", "q"]
        for late in range(4):
            for early in range(late):
                values = [["late"], ["early"]]
                names = {old[late]: values[0], old[early]: values[1]}
                check_raises(self, InvalidName, {"value": values[1]}, renamed, three_net(), names)

    def test_unknown_keys(self):
        for key in ("z", "a", "f", "X", "", "pp", 0, 1, -1):
            check_raises(self, UnknownSource, {"name": key}, renamed, three_net(), {"x": "k", key: "m"})

    def test_the_value_of_an_unknown_key_is_not_asked(self):
        check_raises(self, UnknownSource, {"name": "z"}, renamed, three_net(), {"z": None})

    def test_of_two_unknown_keys_the_same_one_is_told_in_any_order(self):
        for keys in (["z", "w", 3], [3, "z", "w"], ["w", 3, "z"]):
            with self.assertRaises(UnknownSource) as caught:
                renamed(three_net(), {key: "k" for key in keys})
            self.assertEqual("w", caught.exception.name)
        for keys in ([5, 3, 4], [4, 3, 5]):
            with self.assertRaises(UnknownSource) as caught:
                renamed(three_net(), {key: "k" for key in keys})
            self.assertEqual(3, caught.exception.name)

    def test_duplicates(self):
        new = "".join(["n", "1"])
        check_raises(self, Duplicate, {"name": new}, renamed, three_net(), {"x": "n1", "q": new})
        check_raises(self, Duplicate, {"name": new}, renamed, three_net(), {"p": "n1", "q": new})
        for names, told in (
                ({"x": "y"}, "y"), ({"y": "x"}, "x"), ({"p": "x"}, "x"), ({"x": "q"}, "q"), ({"q": "p"}, "p"),
                ({"x": "y", "y": "x", "p": "y"}, "y"), ({"x": "k", "y": "k", "p": "m", "q": "m"}, "k"),
                ({"p": "k", "q": "k", "x": "y"}, "y"), ({"q": "y", "p": "x"}, "x")):
            with self.assertRaises(Duplicate) as caught:
                renamed(three_net(), names)
            self.assertEqual(told, caught.exception.name, names)

    def test_the_order_of_the_checks(self):
        def no_net(arguments):
            arguments["net"] = "net"
            return InvalidNet, {"value": "net"}

        def no_dict(arguments):
            arguments["names"] = value = ["x"]
            return InvalidPart, {"value": value}

        def no_name(arguments):
            arguments["names"]["p"] = 7
            return InvalidName, {"value": 7}

        def no_key(arguments):
            arguments["names"]["z"] = "z"
            return UnknownSource, {"name": "z"}

        def same(arguments):
            arguments["names"]["x"] = "y"
            return Duplicate, {"name": arguments["net"].inputs()[1]} if isinstance(arguments["net"], Net) else {}

        def make():
            return {"net": three_net(), "names": {"q": "k"}}
        check_order(self, make, [no_net, no_dict, no_name, no_key, same], renamed)

    def test_a_refused_call_changes_nothing(self):
        for names in ({"x": "y"}, {"x": 5}, {"z": "k"}, {"x": ["y"], "z": 1}):
            net, before = three_net(), copy.deepcopy(names)
            with self.assertRaises((Duplicate, InvalidName, UnknownSource)):
                renamed(net, names)
            self.assertEqual((before, three_net()), (names, net))


if __name__ == "__main__":
    unittest.main()
