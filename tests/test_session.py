"""[131], [132], [133]: sessions, the lines that are commands, and the commands that change the network."""

import unittest

from helpers import any_values, check_raises, no_nets
from kin import deep_nets
from test_lagged import two_deep
from toldpast.depths import depths
from toldpast.errors import Dry, Duplicate, Idle, InvalidCommand, InvalidInteger, InvalidNet, InvalidPart, Ring, TooDeep
from toldpast.errors import TooMany, TooShort, UnknownEdge, UnknownGate, UnknownSource
from toldpast.lags import deepest, lagged
from toldpast.least import advanced, canonical, least
from toldpast.nets import Net, renamed
from toldpast.session import Session

CHANGING = ["lag g 0", "advance", "deepen", "least", "canon", "rename g h", "start g 1 0 b", "delay g 1 1 f(a,b)",
            "drop 0 0 0", "source g 0 y", "insert g 0 h k", "bypass k"]
ASKING = ["show", "alike", "settles", "range g", "past g", "count", "changes"]


def base_net():
    """A network in which each command is possible."""
    gates = [("g", "f", [("x", [0]), ("g", [0, 1])]), ("k", "m", [("g", [1, 0])])]
    return Net(["x", "y"], gates, [("k", [0, 0]), ("g", [1]), ("y", [])], [("a", ()), ("b", ())])


def after(line, net=None):
    """The network after one command."""
    session = Session(base_net() if net is None else net)
    case = unittest.TestCase()
    case.assertEqual([], session.say(line))
    case.assertEqual([line], session.done())
    return session.net()


def refused(case, error, fields, *lines, net=None):
    """Check that the last line is refused, with equal fields of the same classes, and that nothing changes then."""
    session = Session(base_net() if net is None else net)
    for line in lines[:-1]:
        session.say(line)
    before = session.net(), session.done(), len(session), session.busy
    for call, argument in ((session.say, lines[-1]), (session.say_all, [lines[-1]]), (session.say_all, ("show", lines[-1]))):
        with case.assertRaises(error) as caught:
            call(argument)
        case.assertIs(error, caught.exception.__class__)
        case.assertEqual(fields, vars(caught.exception))
        case.assertEqual({name: value.__class__ for name, value in fields.items()},
                         {name: value.__class__ for name, value in vars(caught.exception).items()})
        case.assertEqual(before, (session.net(), session.done(), len(session), session.busy))


class TestMade(unittest.TestCase):

    def test_a_new_session(self):
        for net in (base_net(), Net([], [], []), *deep_nets()[::9]):
            session = Session(net=net)
            self.assertEqual([net, net, [], 0, False], [session.net(), session.first(), session.done(), len(session), session.busy])

    def test_no_network(self):
        for value in no_nets():
            check_raises(self, InvalidNet, {"value": value}, Session, value)
            check_raises(self, InvalidNet, {"value": value}, Session, net=value)

    def test_the_lines_of_all_changes(self):
        session = Session(base_net())
        lines = []
        for line in ("lag k 0", "show", "rename g h", "count", "delay 0 0 0 a", "changes"):
            session.say(line=line)
            if line.split()[0] in ("lag", "rename", "delay"):
                lines.append(line)
            self.assertEqual((lines, len(lines)), (session.done(), len(session)))
        session.done().clear()
        self.assertEqual([lines, base_net()], [session.done(), session.first()])

    def test_sessions_equal_only_themselves(self):
        net = base_net()
        one, other = Session(net), Session(net)
        self.assertTrue(one == one and one != other and one != net)

    def test_commands_that_leave_the_network_as_it_is_count(self):
        session = Session(base_net())
        for number, line in enumerate(("lag g 0", "rename g g", "rename x x", "start g 1 0 a", "source g 0 x")):
            self.assertEqual([], session.say(line))
            self.assertEqual([base_net(), number + 1], [session.net(), len(session)])


class TestCommands(unittest.TestCase):
    """Which lines are commands."""

    def check_no_command(self, line):
        session = Session(base_net())
        check_raises(self, InvalidCommand, {"value": line}, session.say, line)
        check_raises(self, InvalidCommand, {"value": line}, session.say, line=line)
        check_raises(self, InvalidCommand, {"value": line}, session.say_all, [line])
        check_raises(self, InvalidCommand, {"value": line}, session.say_all, ["show", "lag g 0", line, "lag nobody 0"])
        self.assertEqual([base_net(), []], [session.net(), session.done()])

    def test_each_command_is_one(self):
        for line in CHANGING + ASKING:
            told = Session(base_net()).say(line)
            self.assertEqual(list, told.__class__)
            self.assertEqual([], [text for text in told if not isinstance(text, str)])

    def test_any_value(self):
        for value in any_values():
            self.check_no_command(value)
        for value in (["show"], ("show",), {"show": 1}, b"show"):
            self.check_no_command(value)

    def test_spaces_and_line_feeds(self):
        for line in CHANGING + ASKING:
            for wrong in (" " + line, line + " ", line + "\n", "\n" + line, line + "\nshow", line.replace(" ", "  "), line.upper()):
                if wrong != line:
                    self.check_no_command(wrong)
        for wrong in ("", " ", "  ", "\n", "show\n", "lag\ng 0", "lag g\n0", "lag  g 0", "lag g 0 "):
            self.check_no_command(wrong)

    def test_a_word_too_few_or_too_many(self):
        for line in CHANGING + ASKING + ["undo", "redo"]:
            self.check_no_command(line + " 0")
            self.check_no_command(line + " a")
            self.check_no_command(line + " " + line)
            if " " in line:
                self.check_no_command(line.rpartition(" ")[0])

    def test_unknown_words(self):
        for word in ("Lag", "LAG", "lags", "advanced", "deepest", "canonical", "shows", "help", "net", "x", "0", "-", "un", "say",
                     "begin", "say_all", "bar", "depth", "depths", "moves"):
            for line in (word, word + " g", word + " g 0", word + " g 0 0 a"):
                self.check_no_command(line)

    def test_lags(self):
        net = Net(["x"], [("g", "f", [("x", [])])], [("g", [])])
        for word in ("0", "1", "9", "10", "99", "-1", "-9", "-10", "-99"):
            session = Session(net)
            if word == "0":
                self.assertEqual([], session.say("lag g 0"))
            else:
                with self.assertRaises(TooShort):
                    session.say("lag g " + word)
        for word in ("-0", "00", "01", "-01", "100", "-100", "+1", "--1", "-", "a", "1-", "0x1", "1_0", "1.0", "-a", "999999", "- 1"):
            self.check_no_command("lag g " + word)

    def test_numbers(self):
        for form in ("start {} {} {} a", "delay {} {} {} a", "drop {} {} {}"):
            for words in (("00", "0", "0"), ("0", "00", "0"), ("0", "0", "00"), ("0", "01", "0"), ("0", "0", "-1"), ("-1", "0", "0"),
                          ("0", "-0", "0"), ("1000000", "0", "0"), ("0", "1000000", "0"), ("0", "0", "1000000"), ("g", "g", "0"),
                          ("g", "0", "g"), ("G", "0", "0"), ("1a", "0", "0"), ("abcdefghi", "0", "0"), ("0", "+1", "0")):
                self.check_no_command(form.format(*words))
            for words in (("999999", "0", "0"), ("0", "999999", "0"), ("nobody", "0", "0"), ("abcdefgh", "999999", "999999")):
                with self.assertRaises(UnknownEdge):
                    Session(base_net()).say(form.format(*words))
            with self.assertRaises(InvalidInteger):
                Session(base_net()).say(form.format("0", "0", "999999"))

    def test_names(self):
        for name in ("G", "1", "0", "1g", "g_", "abcdefghi", "g.", "-g", "a,b", "f(a)"):
            for form in ("lag {} 0", "rename {} h", "rename g {}", "source g 0 {}", "insert g 0 {} k", "insert g 0 h {}", "bypass {}",
                         "range {}", "past {}"):
                self.check_no_command(form.format(name))
        for name in ("abcdefgh", "z", "z9"):
            self.assertEqual([], Session(base_net()).say(f"rename g {name}"))
            self.assertEqual([], Session(base_net()).say(f"insert g 0 {name} {name}"))

    def test_terms(self):
        long = "f(" * 130 + "a" + ")" * 130
        exact = f"k({long},aa,aa)"
        self.assertEqual(400, len(exact))
        for term in ("a", "zz", "f(a)", "f(a,b,c)", "f(f(a),g(a,b))", exact):
            self.assertEqual([], Session(base_net()).say(f"start g 1 0 {term}"))
            self.assertEqual([], Session(base_net()).say(f"delay g 1 0 {term}"))
        for term in ("x@0", "f(x@3)", "f(a,x@1)", "f(", "f()", "f(a", "f(a))", "f(a,,b)", "f(a,b,c,d)", "A", "1", "f(1)", "a,b", "(a)",
                     "f(a,)", f"k({long},aa,aaa)", "f(a)b", "@", "a@", "x@x"):
            self.check_no_command(f"start g 1 0 {term}")
            self.check_no_command(f"delay g 1 0 {term}")
        self.check_no_command("start g 1 0 f(a, b)")

    def test_no_command_before_what_a_command_raises(self):
        for line in ("lag nobody 100", "start nobody 0 0 x@1", "drop 9 9 00", "rename nobody A", "insert 9 9 g G"):
            self.check_no_command(line)

    def test_long_lines(self):
        self.check_no_command("show " + "a" * 3995)
        self.check_no_command("a" * 4000)
        self.check_no_command(" ".join(["show"] * 800))


class TestWholeNetworks(unittest.TestCase):
    """The commands that do what a function of the package does."""

    def test_lag(self):
        net = two_deep()
        for line, lags in (("lag q 1", {"q": 1}), ("lag p -1", {"p": -1}), ("lag p 0", {})):
            self.assertEqual(lagged(net, lags), after(line, net))
        refused(self, UnknownGate, {"name": "nobody"}, "lag nobody 0")
        refused(self, UnknownGate, {"name": "nobody"}, "lag nobody 99")
        refused(self, UnknownGate, {"name": "x"}, "lag x 0")
        refused(self, UnknownGate, {"name": "f"}, "lag f -1")
        refused(self, TooShort, {"reader": 0, "slot": 0}, "lag q 2", net=net)
        refused(self, TooShort, {"reader": "p", "slot": 0}, "lag p -99", net=net)
        refused(self, TooDeep, {"name": "g"}, "lag g 1", net=Net(["x"], [("g", "f", [("x", [])])], [("g", [0])], [("a", ())]))

    def test_advance_deepen_least_canon(self):
        for net in deep_nets()[::3]:
            self.assertEqual([advanced(net), deepest(net), least(net), canonical(net)],
                             [after(line, net) for line in ("advance", "deepen", "least", "canon")])
        self.assertEqual({"p": 0, "q": 0}, depths(after("deepen", two_deep())))

    def test_rename(self):
        net = base_net()
        for name, new in (("g", "h"), ("x", "h"), ("y", "f"), ("g", "g"), ("k", "a")):
            self.assertEqual(renamed(net, {name: new}), after(f"rename {name} {new}"))
        refused(self, UnknownSource, {"name": "nobody"}, "rename nobody h")
        refused(self, UnknownSource, {"name": "f"}, "rename f g")
        refused(self, Duplicate, {"name": "k"}, "rename g k")
        refused(self, Duplicate, {"name": "g"}, "rename x g")
        refused(self, Duplicate, {"name": "x"}, "rename k x")


class TestEdges(unittest.TestCase):
    """The commands from start on."""

    def terms(self, net, reader, slot):
        """The starts of an edge as strings."""
        texts = []
        for symbol, numbers in net.terms():
            texts.append(symbol + ("(" + ",".join(texts[n] for n in numbers) + ")" if numbers else ""))
        _, starts = net.edges(reader)[slot] if reader in net else net.outs()[reader]
        return [texts[start] for start in starts]

    def test_start(self):
        net = base_net()
        self.assertEqual(["a", "b"], self.terms(net, "g", 1))
        self.assertEqual(["c", "b"], self.terms(after("start g 1 0 c"), "g", 1))
        self.assertEqual(["a", "f(b,h(a))"], self.terms(after("start g 1 1 f(b,h(a))"), "g", 1))
        self.assertEqual(["a", "g"], self.terms(after("start 0 0 1 g"), 0, 0))
        inputs, gates, outs, _ = net.rows()
        outs[1] = ("g", [2])
        expected = Net(inputs, gates, outs, [("a", ()), ("b", ()), ("f", (0, 0, 0))])
        self.assertEqual(expected, after("start 1 0 0 f(a,a,a)"))
        refused(self, InvalidInteger, {"value": 2}, "start g 1 2 a")
        refused(self, InvalidInteger, {"value": 0}, "start 2 0 0 a")
        refused(self, InvalidInteger, {"value": 999999}, "start g 0 999999 a")

    def test_delay(self):
        self.assertEqual(["c", "a", "b"], self.terms(after("delay g 1 0 c"), "g", 1))
        self.assertEqual(["a", "c", "b"], self.terms(after("delay g 1 1 c"), "g", 1))
        self.assertEqual(["a", "b", "f(b)"], self.terms(after("delay g 1 2 f(b)"), "g", 1))
        self.assertEqual(["h(a,b)"], self.terms(after("delay 2 0 0 h(a,b)"), 2, 0))
        refused(self, InvalidInteger, {"value": 3}, "delay g 1 3 a")
        refused(self, InvalidInteger, {"value": 1}, "delay 2 0 1 a")

    def test_twenty_delays(self):
        session = Session(base_net())
        for number in range(20):
            session.say(f"delay 2 0 {number // 2} c{number}")
        self.assertEqual(20, session.net().delays(2, 0))
        lines = session.done()
        refused(self, TooMany, {"most": 20}, *lines, "delay 2 0 0 a")
        refused(self, TooMany, {"most": 20}, *lines, "delay 2 0 20 a")
        refused(self, InvalidInteger, {"value": 21}, *lines, "delay 2 0 21 a")
        self.assertEqual([], session.say("delay 1 0 0 a"))
        for many in (20, 21, 30):
            net = Net(["x"], [], [("x", [0] * many)], [("a", ())])
            refused(self, TooMany, {"most": 20}, "delay 0 0 0 a", net=net)
        self.assertEqual(20, after("delay 0 0 0 a", Net(["x"], [], [("x", [0] * 19)], [("a", ())])).delays(0, 0))
        self.assertEqual(30, after("start 0 0 29 b", Net(["x"], [], [("x", [0] * 30)], [("a", ())])).delays(0, 0))

    def test_drop(self):
        self.assertEqual(["b"], self.terms(after("drop g 1 0"), "g", 1))
        self.assertEqual(["a"], self.terms(after("drop g 1 1"), "g", 1))
        self.assertEqual([], self.terms(after("drop 1 0 0"), 1, 0))
        refused(self, InvalidInteger, {"value": 2}, "drop g 1 2")
        refused(self, InvalidInteger, {"value": 0}, "drop 2 0 0")
        refused(self, Ring, {"gates": ["g"]}, "drop g 1 0", "drop g 1 0")

    def test_source(self):
        told = after("source g 0 y")
        self.assertEqual([("y", [0]), ("g", [0, 1])], told.edges("g"))
        self.assertEqual(["a"], self.terms(told, "g", 0))
        self.assertEqual([("k", [0, 0]), ("y", [1]), ("y", [])], after("source 1 0 y").outs())
        self.assertEqual([("k", [0, 0]), ("g", [1]), ("k", [])], after("source 2 0 k").outs())
        refused(self, UnknownSource, {"name": "nobody"}, "source g 0 nobody")
        refused(self, UnknownSource, {"name": "f"}, "source 0 0 f")
        refused(self, Idle, {"name": "k"}, "source 0 0 g")
        refused(self, Dry, {"name": "g"}, "source g 0 g")
        refused(self, Ring, {"gates": ["g"]}, "drop g 0 0", "source g 0 g")

    def test_insert(self):
        told = after("insert g 1 h n")
        self.assertEqual((["g", "k", "h"], ("n", [("g", [0, 1])]), [("x", [0]), ("h", [])]), (told.names(), told["h"], told.edges("g")))
        told = after("insert 0 0 h n")
        self.assertEqual([("n", [("k", [0, 0])]), [("h", []), ("g", [1]), ("y", [])]], [told["h"], told.outs()])
        self.assertEqual(("n", [("y", [])]), after("insert 2 0 h n")["h"])
        self.assertEqual("h", after("insert 2 0 h h").symbol("h"))
        for name in ("g", "k", "x", "y"):
            refused(self, Duplicate, {"name": name}, f"insert 0 0 {name} n")

    def test_eight_gates(self):
        lines = [f"insert 2 0 h{n} n" for n in range(6)]
        refused(self, TooMany, {"most": 8}, *lines, "insert 0 0 z n")
        refused(self, TooMany, {"most": 8}, *lines, "insert 0 0 g n")
        refused(self, UnknownEdge, {"reader": 3, "slot": 0}, *lines, "insert 3 0 z n")
        session = Session(base_net())
        for line in lines + ["bypass h3", "insert 0 0 z n"]:
            session.say(line)
        self.assertEqual(8, len(session.net()))

    def test_bypass(self):
        told = after("bypass k")
        self.assertEqual((["g"], ["g", "g", "y"]), (told.names(), [source for source, _ in told.outs()]))
        self.assertEqual(["a", "a", "b", "a"], self.terms(told, 0, 0))
        gates = [("p", "f", [("x", [0, 1])]), ("q", "g", [("p", [1]), ("p", []), ("x", [0])]), ("r", "f", [("p", [0])])]
        net = Net(["x"], gates, [("q", []), ("p", [0]), ("r", [])], [("a", ()), ("b", ())])
        told = after("bypass p", net)
        self.assertEqual([["b", "a", "b"], ["a", "b"], ["a"]], [self.terms(told, "q", slot) for slot in range(3)])
        self.assertEqual([["a", "b"], ["a", "a", "b"]], [self.terms(told, "q", 1), self.terms(told, "r", 0)])
        self.assertEqual([("q", "q"), ("x", "r")], [(told.source(0, 0), "q"), (told.source(1, 0), told.source(2, 0))])
        refused(self, UnknownGate, {"name": "nobody"}, "bypass nobody")
        refused(self, UnknownGate, {"name": "x"}, "bypass x")
        refused(self, InvalidPart, {"value": "g"}, "bypass g")
        refused(self, InvalidPart, {"value": "q"}, "bypass q", net=net)
        # Three edges into itself by way of a gate that is bypassed.
        ring = Net(["x"], [("p", "f", [("q", [0])]), ("q", "g", [("x", []), ("p", [0])])], [("p", [])], [("a", ())])
        self.assertEqual([("x", []), ("q", [0, 0])], after("bypass p", ring).edges("q"))

    def test_insert_and_bypass(self):
        net = base_net()
        for reader, slot in (("g", 0), ("g", 1), ("k", 0), (0, 0), (1, 0), (2, 0)):
            session = Session(net)
            session.say(f"insert {reader} {slot} z n")
            session.say("bypass z")
            self.assertEqual(net, session.net())

    def test_unknown_edges(self):
        for form in ("start {} {} 0 a", "delay {} {} 0 a", "drop {} {} 0", "source {} {} x", "insert {} {} z n"):
            for reader, slot in (("g", 2), ("k", 1), (0, 1), (3, 0), (999999, 999999), ("x", 0), ("nobody", 0), ("g", 999999), ("f", 0)):
                refused(self, UnknownEdge, {"reader": reader, "slot": slot}, form.format(reader, slot))

    def test_the_order_of_the_checks(self):
        # The edge, then the index, then how many there are already, then what the network refuses.
        full = Net(["x"], [("p", "f", [("x", [])])], [("p", []), ("x", [0] * 20)], [("a", ())])
        refused(self, UnknownEdge, {"reader": "p", "slot": 1}, "start p 1 99 a", net=full)
        refused(self, UnknownEdge, {"reader": 2, "slot": 0}, "delay 2 0 21 a", net=full)
        refused(self, InvalidInteger, {"value": 21}, "delay 1 0 21 a", net=full)
        refused(self, TooMany, {"most": 20}, "delay 1 0 20 a", net=full)
        refused(self, UnknownEdge, {"reader": 2, "slot": 0}, "source 2 0 nobody", net=full)
        refused(self, UnknownEdge, {"reader": 2, "slot": 0}, "drop 2 0 7", net=full)
        gates = [(f"p{n}", "f", [("x", [])]) for n in range(8)]
        eight = Net(["x"], gates, [(f"p{n}", []) for n in range(8)])
        refused(self, UnknownEdge, {"reader": "p0", "slot": 1}, "insert p0 1 x n", net=eight)
        refused(self, TooMany, {"most": 8}, "insert p0 0 x n", net=eight)
        refused(self, UnknownGate, {"name": "x"}, "bypass x", net=eight)


if __name__ == "__main__":
    unittest.main()
