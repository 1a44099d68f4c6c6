"""[41], [42]: edges as words, and networks as texts."""

import unittest

from helpers import HUGE, any_values, check_new, check_order, check_raises, no_indices, no_lists, no_names, no_nets
from helpers import small_net
from model import many_nets
from toldpast.errors import InvalidInteger, InvalidName, InvalidNet, InvalidPart
from toldpast.least import advanced
from toldpast.nets import Net
from toldpast.nettext import edge_of, edge_text, net_of, text_of


class TestEdgeText(unittest.TestCase):

    def test_document(self):
        told = [edge_text("x", [0, 12]), edge_of("x:0,12"), edge_of("x"), edge_of("x:"), edge_of("x:01")]
        self.assertEqual(["x:0,12", ("x", [0, 12]), ("x", []), None, None], told)

    def test_words(self):
        self.assertEqual("x", edge_text("x", []))
        self.assertEqual("x", edge_text("x", ()))
        self.assertEqual("abcdefg8:7", edge_text(starts=(7,), source="abcdefg8"))
        self.assertEqual("x:0,999999,10,0", edge_text("x", [0, 999999, 10, 0]))

    def test_no_name(self):
        for value in no_names():
            check_raises(self, InvalidName, {"value": value}, edge_text, value, [0])

    def test_no_list(self):
        for value in no_lists():
            check_raises(self, InvalidPart, {"value": value}, edge_text, "x", value)

    def test_no_number(self):
        for value in no_indices(1000000) + [1000000, HUGE]:
            check_raises(self, InvalidInteger, {"value": value}, edge_text, "x", [0, value, None])

    def test_the_order_of_the_checks(self):
        def no_name(arguments):
            arguments["source"] = "x:"
            return InvalidName, {"value": "x:"}

        def no_list(arguments):
            arguments["starts"] = "12"
            return InvalidPart, {"value": "12"}

        def no_number(arguments):
            arguments["starts"][0] = "1"
            return InvalidInteger, {"value": "1"}

        def nor_the_next(arguments):
            arguments["starts"][1] = "2"
            return InvalidInteger, {"value": "2"}
        faults = [no_name, no_list, no_number, nor_the_next]
        check_order(self, lambda: {"source": "x", "starts": [1, 2]}, faults, edge_text)

    def test_nothing_that_is_passed_is_changed(self):
        starts = [3, 1]
        edge_text("x", starts)
        self.assertEqual([3, 1], starts)


class TestEdgeOf(unittest.TestCase):

    def test_words_that_represent_an_edge(self):
        for word, edge in (
                ("x", ("x", [])), ("abcdefg8", ("abcdefg8", [])), ("x:0", ("x", [0])), ("x:999999", ("x", [999999])),
                ("g:10,0,10", ("g", [10, 0, 10])), ("x:" + ",".join("1" * 30), ("x", [1] * 30))):
            self.assertEqual(edge, edge_of(word))
            self.assertEqual(word, edge_text(*edge))
            self.assertEqual([tuple, list], [edge_of(word).__class__, edge_of(word)[1].__class__])

    def test_words_that_represent_none(self):
        for word in (
                "", ":", "x:", ":0", ":0,1", "x:01", "x:00", "x:0,", "x:,0", "x:,", "x:0,,1", "x: 0", "x:0 ", "x :0",
                " x", "x ", "x\n", "x:0\n", "x:\n0", "x:0,\n1", "x:-1", "x:+1", "x:1000000", "x:0000001", "x:a",
                "x::0", "x:0:1", "x:0;1", "X", "X:0", "1", "1:0", "abcdefghi", "abcdefghi:0", "x_", "x:0, 1", "x,0",
                "x:" + "1" * 31, "x:1_0", "x:1.0", "a b", "x y:0", "x:0 y:1"):
            self.assertIs(None, edge_of(word), word)

    def test_any_value(self):
        for value in any_values() + [("x", [0]), ["x", [0]], b"x"]:
            told = edge_of(value)
            if isinstance(value, str) and value in ("a", "x1"):
                self.assertEqual((value, []), told)
            else:
                self.assertIs(None, told)

    def test_new_lists(self):
        self.assertEqual(("x", [0, 1]), check_new(self, edge_of, word="x:0,1"))
        self.assertEqual(("x", []), check_new(self, edge_of, "x"))


class TestTextOf(unittest.TestCase):

    def test_document(self):
        net = Net(["x"], [("g", "f", [("x", []), ("g", [1])])], [("g", [])], [("a", ()), ("h", (0,))])
        self.assertEqual("input x\nterm 5 a\nterm 6 h 5\ngate g f x g:6\nout g", text_of(net, first=5))

    def test_lines_of_each_kind(self):
        gates = [("p", "f", [("x", [0]), ("q", [3, 1]), ("p", [2])]), ("q", "g", [("p", [])])]
        terms = [("a", ()), ("f", (0,)), ("f", (1, 0)), ("f", (2, 1, 0))]
        net = Net(["y", "x"], gates, [("q", []), ("x", [0, 0])], terms)
        lines = ["input y", "input x", "term 0 a", "term 1 f 0", "term 2 f 1 0", "term 3 f 2 1 0",
                 "gate p f x:0 q:3,1 p:2", "gate q g p", "out q", "out x:0,0"]
        self.assertEqual("\n".join(lines), text_of(net))
        lines = ["input y", "input x", "term 7 a", "term 17 f 7", "term 27 f 17 7", "term 37 f 27 17 7",
                 "gate p f x:7 q:37,17 p:27", "gate q g p", "out q", "out x:7,7"]
        self.assertEqual("\n".join(lines), text_of(step=10, first=7, net=net))

    def test_no_lines(self):
        self.assertEqual("", text_of(Net([], [], [])))
        self.assertEqual("", text_of(Net([], [], []), first=999, step=99))
        self.assertEqual("input x", text_of(Net(["x"], [], [])))
        self.assertEqual("input x\nout x", text_of(Net(["x"], [], [("x", [])])))

    def test_the_first_and_the_last_number(self):
        net = Net(["x"], [], [("x", [0, 1])], [("a", ()), ("f", (0,))])
        self.assertEqual("input x\nterm 999 a\nterm 1098 f 999\nout x:999,1098", text_of(net, first=999, step=99))
        self.assertEqual("input x\nterm 0 a\nterm 1 f 0\nout x:0,1", text_of(net, first=0, step=1))

    def test_numbers_that_no_text_that_is_read_has(self):
        many = 10200
        net = Net(["x"], [], [("x", [many])], [("a", ())] + [("f", (n,)) for n in range(many)])
        self.assertTrue(text_of(net, first=0, step=99).endswith(f"\nout x:{99 * many}"))

    def test_a_text_tells_its_network(self):
        for net in many_nets():
            for more in ({}, {"first": 999}, {"step": 99}, {"first": 1, "step": 2}):
                self.assertEqual(net, net_of(text_of(net, **more)))
            self.assertEqual(advanced(net), net_of(text_of(advanced(net), first=3, step=5)))
            self.assertEqual(text_of(net), text_of(net_of(text_of(net, first=7))))

    def test_no_network(self):
        for value in no_nets():
            check_raises(self, InvalidNet, {"value": value}, text_of, value)

    def test_no_numbers(self):
        for value in no_indices(1000) + [1000]:
            check_raises(self, InvalidInteger, {"value": value}, text_of, small_net(), first=value)
        for value in no_indices(100) + [0, 100]:
            check_raises(self, InvalidInteger, {"value": value}, text_of, small_net(), step=value)

    def test_the_order_of_the_checks(self):
        def no_net(arguments):
            arguments["net"] = value = [small_net()]
            return InvalidNet, {"value": value}

        def no_first(arguments):
            arguments["first"] = "0"
            return InvalidInteger, {"value": "0"}

        def no_step(arguments):
            arguments["step"] = "1"
            return InvalidInteger, {"value": "1"}
        check_order(self, lambda: {"net": small_net(), "first": 0, "step": 1}, [no_net, no_first, no_step], text_of)


if __name__ == "__main__":
    unittest.main()
