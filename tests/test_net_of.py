"""[43]: the networks that texts represent."""

import unittest

from helpers import any_values, check_raises
from toldpast.errors import Dry, Duplicate, DuplicateTerm, Idle, InvalidLine, InvalidString, Ring, UnknownSource
from toldpast.errors import UnknownTerm
from toldpast.least import advanced, canonical
from toldpast.nets import Net
from toldpast.nettext import net_of, text_of
from toldpast.runs import free_run

GOOD = ["input x", "term 0 a", "term 1 f 0", "gate g f x g:1", "out g:0"]


def told(case, error, field, text):
    """The value of the field of the exception that a text raises."""
    with case.assertRaises(error) as caught:
        net_of(text)
    case.assertIs(error, caught.exception.__class__)
    case.assertEqual([field], list(vars(caught.exception)))
    return getattr(caught.exception, field)


class TestRead(unittest.TestCase):

    def test_document(self):
        net = net_of("out g:7\nterm 9 a\ngate g f x g:7\nterm 7 h 9\ninput x")
        self.assertEqual(([("g", [1])], [("a", ()), ("h", (0,))]), net.rows()[2:])
        self.assertEqual(1, told(self, InvalidLine, "index", "input x\ninput  y"))

    def test_no_lines(self):
        self.assertEqual(Net([], [], []), net_of(""))
        self.assertEqual(Net([], [], []), net_of(text=""))

    def test_the_good_lines(self):
        gates = [("g", "f", [("x", []), ("g", [1])])]
        self.assertEqual(Net(["x"], gates, [("g", [0])], [("a", ()), ("f", (0,))]), net_of("\n".join(GOOD)))

    def test_lines_of_one_kind_give_the_order(self):
        lines = ["out q", "gate p f x", "input y", "out p", "input x", "gate q f y"]
        net = net_of("\n".join(lines))
        self.assertEqual((["y", "x"], ["p", "q"], [("q", []), ("p", [])]), (net.inputs(), net.names(), net.outs()))
        net = net_of("\n".join(lines[::-1]))
        self.assertEqual((["x", "y"], ["q", "p"], [("p", []), ("q", [])]), (net.inputs(), net.names(), net.outs()))

    def test_lines_of_several_kinds_may_stand_in_any_order(self):
        net = net_of("\n".join(GOOD))
        for turned in range(5):
            lines = GOOD[turned:] + GOOD[:turned]
            if lines.index("term 0 a") < lines.index("term 1 f 0"):
                self.assertEqual(net, net_of("\n".join(lines)))

    def test_any_different_numbers_of_terms(self):
        net = net_of("term 999999 a\nterm 0 b\nterm 500 f 0 999999 0\nterm 3 f 500\ninput x\nout x:3,999999,500")
        rows = [("b", ()), ("a", ()), ("f", (0, 1, 0)), ("f", (2,))]
        self.assertEqual(([("x", [3, 1, 2])], rows), net.rows()[2:])

    def test_equal_terms_and_terms_that_no_start_needs(self):
        net = net_of("term 5 a\nterm 6 a\nterm 7 b\nterm 8 f 5\nterm 9 f 6\ninput x\nout x:9,8,6")
        self.assertEqual(([("x", [1, 1, 0])], [("a", ()), ("f", (0,))]), net.rows()[2:])

    def test_a_start_may_be_the_number_of_a_line_below(self):
        net = net_of("input x\nout g:1\ngate g f x:1,2\nterm 2 a\nterm 1 f 2")
        self.assertEqual([("a", ()), ("f", (0,))], net.terms())
        self.assertEqual([[("x", [1, 0])], [("g", [1])]], [net.edges("g"), net.outs()])

    def test_names_of_the_kinds_of_lines(self):
        net = net_of("input input\nterm 0 term\nterm 1 out 0\ngate gate gate input:1 out\nout gate\ngate out out gate:0")
        self.assertEqual((["input"], ["gate", "out"]), (net.inputs(), net.names()))
        self.assertEqual([("term", ()), ("out", (0,))], net.terms())

    def test_a_network_beyond_the_limits(self):
        chain = ["term 0 a"] + [f"term {n + 1} f {n} {n}" for n in range(190)]
        net = net_of("\n".join(["input x", *chain, "gate g f x:190 g:0", "out g:190"]))
        self.assertEqual(191, len(net.terms()))
        self.assertEqual(net, net_of(text_of(net)))
        gates = [f"gate g{n} f " + ("x" if n == 0 else f"g{n - 1}") for n in range(200)]
        net = net_of("\n".join(["input x", *gates[::-1], "out g199"]))
        self.assertEqual(200, len(net))
        starts = ",".join("0" * 1900)
        net = net_of(f"input x\nterm 0 a\ngate g f x:{starts}\nout g")
        self.assertEqual(1900, net.delays("g", 0))
        self.assertEqual(1900, advanced(net).delays(0, 0))

    def test_such_a_network_is_answered_promptly(self):
        starts = ",".join("0" * 700)
        gates = "\n".join(f"gate g{n} f g{n - 1} g{n - 1}" for n in range(1, 70))
        net = net_of(f"input x\nterm 0 a\ngate g0 f g0:0 x:{starts}\n{gates}\nout g69")
        early = advanced(net)
        self.assertEqual((700, 0, 0), (early.delays(0, 0), early.delays("g0", 1), early.delays("g69", 1)))
        self.assertEqual(early, advanced(early))
        self.assertEqual(canonical(net), canonical(early))
        self.assertEqual(200, len(free_run(early, 200)[1]))


class TestLines(unittest.TestCase):

    def check_line(self, line, good):
        """Check that a line has one of the forms or none, wherever it stands."""
        for place in range(len(GOOD) + 1):
            text = "\n".join(GOOD[:place] + [line] + GOOD[place:])
            if good:
                net_of(text)
            else:
                self.assertEqual(place, told(self, InvalidLine, "index", text), line)

    def test_lines_with_a_form(self):
        for line in ("input y", "input abcdefg8", "term 7 b", "term 999999 f", "term 10 abcdefg8", "out g", "out x",
                     "out x:0,1,0", "out g:" + ",".join("0" * 40)):
            self.check_line(line, True)
        for line in ("gate h f x\nout h", "gate h f x g x:0\nout h", "gate h abcdefg8 h:1,0 x\nout h",
                     "term 8 b\nterm 9 f 8 8 8\nterm 10 f 9 8", "gate abcdefg8 f x\nout abcdefg8:0"):
            self.check_line(line, True)

    def test_lines_without_a_form(self):
        for line in (
                "", " ", "input", "input ", "input x y", "input  y", " input y", "input y ", "input Y", "input 1",
                "input abcdefghi", "input y:0", "inputy", "Input y", "input\ty", "y", "term", "term 7", "term a",
                "term 07 b", "term 1000000 b", "term -1 b", "term x b", "term 7 B", "term 7 1", "term 7 abcdefghi",
                "term 7 f 0 0 0 0", "term 7 f a", "term 7 f 01", "term 7 f 1000000", "term 7 f -1", "term 7 f  0",
                "term 7 f 0 ", "term  7 f", "term 7 f 0,0", "term +7 b", "term 7 f:0", "term 7 7",
                "gate", "gate h", "gate h f", "gate h f ", "gate h f x x x x", "gate H f x", "gate h F x", "gate 1 f x",
                "gate h 1 x", "gate h f X", "gate h f x:", "gate h f x:01", "gate h f x:0,", "gate h f x: 0",
                "gate h f x:0 1", "gate h f  x", "gate h f x ", " gate h f x", "gate h f x:1000000", "gate h f x,x",
                "gate abcdefghi f x", "gate h abcdefghi x", "gate h f :0", "gate h f 0",
                "out", "out ", "out x g", "out x:", "out  x", "out x ", " out x", "out X", "out 0", "out x:00",
                "out x:1000000", "out x:0 1", "outs x", "out x:-1", "in x", "# x", "out abcdefghi"):
            self.check_line(line, False)

    def test_empty_lines(self):
        for text, index in (("\n", 0), ("input x\n", 1), ("\ninput x", 0), ("input x\n\nout x", 1),
                            ("input x\nout x\n\n", 2), ("\n\n", 0)):
            self.assertEqual(index, told(self, InvalidLine, "index", text))

    def test_the_first_line_without_a_form(self):
        self.assertEqual(2, told(self, InvalidLine, "index", "input x\nout x\nout\ninput\nterm"))

    def test_no_string(self):
        for value in any_values() + [b"input x", ["input x"]]:
            if not isinstance(value, str):
                check_raises(self, InvalidString, {"value": value}, net_of, value)

    def test_other_strings(self):
        for value in any_values():
            if isinstance(value, str) and value:
                self.assertEqual(0, told(self, InvalidLine, "index", value))


class TestTerms(unittest.TestCase):

    def test_duplicate_numbers(self):
        self.assertEqual(0, told(self, DuplicateTerm, "number", "term 0 a\nterm 0 a"))
        self.assertEqual(7, told(self, DuplicateTerm, "number", "term 7 a\nterm 8 b\ninput x\nterm 7 f 8\nterm 8 c"))

    def test_unknown_arguments(self):
        self.assertEqual(5, told(self, UnknownTerm, "number", "term 0 a\nterm 1 f 0 5 6"))
        self.assertEqual(1, told(self, UnknownTerm, "number", "term 0 a\nterm 1 f 0 1"))
        self.assertEqual(2, told(self, UnknownTerm, "number", "term 0 a\nterm 1 f 2\nterm 2 b"))

    def test_unknown_starts(self):
        lines = "input x\nterm 3 a\ngate g f x:3 g:{}\nout g:{}\ngate h f g:{}\nout h:{}"
        for numbers, first in (((4, 5, 6, 7), 4), ((3, 5, 6, 7), 6), ((3, 5, 3, 7), 5), ((3, 3, 3, 7), 7)):
            self.assertEqual(first, told(self, UnknownTerm, "number", lines.format(*numbers)))
        self.assertEqual(0, told(self, UnknownTerm, "number", "input x\nout x:0"))

    def test_a_line_with_two_faults(self):
        self.assertEqual(7, told(self, DuplicateTerm, "number", "term 7 a\nterm 7 f 9"))

    def test_term_line_by_term_line(self):
        self.assertEqual(9, told(self, UnknownTerm, "number", "term 7 a\nterm 8 f 9\nterm 7 b"))
        self.assertEqual(7, told(self, DuplicateTerm, "number", "term 7 a\nterm 7 b\nterm 8 f 9"))


class TestOrder(unittest.TestCase):

    def test_all_lines_before_the_numbers_of_terms(self):
        self.assertEqual(3, told(self, InvalidLine, "index", "term 7 a\nterm 7 b\nterm 8 f 9\nterm"))

    def test_all_terms_before_the_starts(self):
        self.assertEqual(7, told(self, DuplicateTerm, "number", "input x\nout x:5\nterm 7 a\nterm 7 b"))
        self.assertEqual(9, told(self, UnknownTerm, "number", "input x\nout x:5\nterm 7 f 9"))

    def test_the_starts_before_the_rest(self):
        for text in ("input x\ninput x\nout x:5", "input x\nout y\nout x:5", "input x\ngate g f g\nout g:5",
                     "input x\ngate x f x:5\nout x", "gate g f g:5\nout g", "input x\ngate g f x:5"):
            self.assertEqual(5, told(self, UnknownTerm, "number", text))

    def test_then_as_for_lists(self):
        self.assertEqual("x", told(self, Duplicate, "name", "input x\nout y\ngate g f g\ninput x"))
        self.assertEqual("x", told(self, Duplicate, "name", "gate x f x\ninput x\nout y"))
        self.assertEqual("g", told(self, Duplicate, "name", "input x\ngate g f y\ngate g f x"))
        self.assertEqual("y", told(self, UnknownSource, "name", "out z\ninput x\ngate g f g y\ngate h f h"))
        self.assertEqual("z", told(self, UnknownSource, "name", "out z\ninput x\ngate g f g x"))
        self.assertEqual(["g"], told(self, Ring, "gates", "input x\ngate h f h:0\nterm 0 a\ngate g f g x\ngate k f x"))
        self.assertEqual("h", told(self, Dry, "name", "input x\nterm 0 a\ngate k f x\ngate h f h:0\nout h"))
        self.assertEqual("k", told(self, Idle, "name", "input x\nterm 0 a\ngate k f x\ngate h f x\nout h"))


if __name__ == "__main__":
    unittest.main()
