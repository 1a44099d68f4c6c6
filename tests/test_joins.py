"""[121], [122], [123], [124]: networks one behind the other, side by side, and led back to themselves."""

import random
import unittest

from helpers import any_values, check_new, check_order, check_raises, limit_seconds, no_lists, no_nets, small_net
from kin import deep_nets, hastened, shuffled
from model import Model, given_rows, mixing_meaning, random_net, random_terms
from toldpast.compare import alike
from toldpast.errors import Dry, Duplicate, EmptyLoop, Idle, InvalidEdge, InvalidName, InvalidNet, InvalidPart, InvalidRow
from toldpast.errors import Mismatch, NetError, Ring, StateError, UnknownEdge, UnknownSource
from toldpast.joins import beside, looped, series
from toldpast.least import advanced, canonical, least
from toldpast.nets import Net, renamed
from toldpast.runs import answers

LONG = 60


def feeder():
    return Net(["x"], [("g", "f", [("x", [])])], [("g", [0])], [("a", ())])


def fed():
    return Net(["y"], [("h", "k", [("y", [0, 1])])], [("h", []), ("y", [])], [("b", ()), ("c", ())])


def loop_net():
    return Net(["x", "y"], [("g", "f", [("x", []), ("y", [])])], [("g", [])])


def with_other_names(net, letter):
    """A network whose gates have names that no other letter gives."""
    return renamed(net, {name: f"{letter}{place}" for place, name in enumerate(net.names())})


def meaning_of_all(*nets):
    """One meaning for all symbols of some networks."""
    found = {}
    for net in nets:
        found.update(mixing_meaning(net))
    return found


def pairs_in_series(count=60):
    """Networks, and networks that have as many inputs as those have outs."""
    found = []
    for seed in range(count):
        one = with_other_names(random_net(seed, most=3), "a")
        inputs = [f"i{n}" for n in range(len(one.outs()))]
        other = with_other_names(random_net(seed + 500, most=3, inputs=inputs), "b")
        found.append((one, other))
    return found


def tried(call, *arguments):
    """What a call returns, or None if it raises an exception of the package."""
    try:
        return call(*arguments)
    except (NetError, StateError):
        return None


class TestSeries(unittest.TestCase):

    def test_document(self):
        told = series(feeder(), fed())
        self.assertEqual(([("g", "f", [("x", [])]), ("h", "k", [("g", [0, 1, 2])])], [("h", []), ("g", [2])]), told.rows()[1:3])
        self.assertEqual([("b", ()), ("c", ()), ("a", ())], told.terms())
        self.assertEqual(["x"], told.inputs())
        self.assertEqual(told, series(other=fed(), one=feeder()))

    def test_the_own_starts_come_first(self):
        one = Net(["x"], [], [("x", [0, 1])], [("a", ()), ("b", ())])
        other = Net(["y"], [], [("y", [0, 1]), ("y", [])], [("c", ()), ("d", ())])
        told = series(one, other)
        self.assertEqual([("x", [0, 1, 2, 3]), ("x", [2, 3])], told.outs())
        self.assertEqual([("c", ()), ("d", ()), ("a", ()), ("b", ())], told.terms())

    def test_outs_that_read_an_input_directly(self):
        one = Net(["x", "z"], [("g", "f", [("x", [])])], [("z", []), ("g", [])])
        other = Net(["p", "q"], [("h", "f", [("q", [])])], [("p", []), ("h", []), ("q", [])])
        told = series(one, other)
        self.assertEqual((["x", "z"], ["g", "h"], [("z", []), ("h", []), ("g", [])]), (told.inputs(), told.names(), told.outs()))

    def test_an_out_that_is_read_several_times(self):
        other = Net(["y"], [("h", "k", [("y", []), ("y", [0])])], [("h", []), ("y", [0, 0])], [("b", ())])
        told = series(feeder(), other)
        self.assertEqual([("g", [0]), ("g", [1, 0])], told.edges("h"))
        self.assertEqual([("h", []), ("g", [1, 1, 0])], told.outs())

    def test_an_out_that_is_never_read(self):
        one = Net(["x"], [("g", "f", [("x", [])]), ("k", "f", [("g", [])])], [("g", []), ("x", []), ("k", [])])
        unread = Net(["p", "q", "r"], [], [("q", []), ("p", [])])
        check_raises(self, Idle, {"name": "k"}, series, one, unread)
        unread = Net(["p", "q", "r"], [], [("q", []), ("r", [])])
        self.assertEqual(["g", "k"], series(one, unread).names())
        unread = Net(["p", "q", "r"], [], [("q", [])])
        check_raises(self, Idle, {"name": "g"}, series, one, unread)
        self.assertEqual([], series(Net(["x"], [], [("x", [])]), Net(["y"], [], [])).outs())

    def test_inputs_of_the_second_one_with_names_of_the_first_one(self):
        # The names of these inputs are gone in the result.
        other = Net(["g", "x"], [("h", "k", [("x", []), ("g", [])])], [("h", []), ("g", [])])
        one = Net(["x"], [("g", "f", [("x", [])])], [("x", []), ("g", [])])
        told = series(one, other)
        self.assertEqual([("g", []), ("x", [])], told.edges("h"))
        self.assertEqual([("h", []), ("x", [])], told.outs())

    def test_terms_that_both_have(self):
        one = Net(["x"], [], [("x", [0])], [("a", ())])
        other = Net(["y"], [], [("y", [1, 0])], [("a", ()), ("h", (0,))])
        self.assertEqual(([("x", [1, 0, 0])], [("a", ()), ("h", (0,))]), series(one, other).rows()[2:])

    def test_answers_are_those_of_the_parts(self):
        joined = 0
        for one, other in pairs_in_series():
            told = tried(series, one, other)
            if told is None:
                continue
            joined += 1
            meaning, rows = meaning_of_all(one, other), given_rows(one, LONG)
            self.assertEqual(answers(other, meaning, answers(one, meaning, rows)), answers(told, meaning, rows))
            self.assertEqual(one.inputs(), told.inputs())
            self.assertEqual(one.names() + other.names(), told.names())
        self.assertGreater(joined, 25)

    def test_five_times_in_a_row(self):
        limit_seconds(self, 20)
        part = Net(["x"], [("g", "f", [("x", [0] * 30), ("g", [0]), ("g", [0])])], [("g", [0] * 30)], [("a", ())])
        told = part
        for n in range(5):
            told = series(told, renamed(part, {"g": f"g{n}"}))
        self.assertEqual([30, 60, 6], [told.delays("g", 0), told.delays("g4", 0), len(told)])
        again = beside(told)
        self.assertTrue(alike(told, again))
        self.assertTrue(alike(advanced(told), told))

    def test_refused(self):
        for value in no_nets():
            check_raises(self, InvalidNet, {"value": value}, series, value, fed())
            check_raises(self, InvalidNet, {"value": value}, series, other=value, one=feeder())
        for other in (Net([], [], []), Net(["y", "z"], [], [("y", [])])):
            check_raises(self, Mismatch, {"other": other}, series, feeder(), other)
        one = Net(["x"], [("g", "f", [("x", [])]), ("h", "f", [("g", [])])], [("h", [])])
        for names, taken in ((["g"], "g"), (["k", "x", "h"], "x"), (["k", "h", "x"], "h"), (["x"], "x")):
            gates = [(name, "k", [("y", [])]) for name in names]
            other = Net(["y"], gates, [(name, []) for name in names])
            check_raises(self, Duplicate, {"name": taken}, series, one, other)

    def test_the_order_of_the_checks(self):
        def no_one(arguments):
            arguments["one"] = value = [1]
            return InvalidNet, {"value": value}

        def no_other(arguments):
            arguments["other"] = value = [2]
            return InvalidNet, {"value": value}

        def mismatch(arguments):
            # The first gate has a name that is taken, and the gates of the other network lead to no out.
            arguments["other"] = value = Net(["y", "z"], [("g", "k", [("y", [])])], [("g", [])])
            return Mismatch, {"other": value}

        def duplicate(arguments):
            arguments["other"] = Net(["y"], [("g", "k", [("y", [])])], [("g", [])])
            return Duplicate, {"name": "g"}
        check_order(self, lambda: {"one": feeder(), "other": fed()}, [no_one, no_other, mismatch, duplicate], series)
        # A name that is taken before a gate that leads to no out.
        one = Net(["x"], [("g", "f", [("x", [])]), ("k", "f", [("x", [])])], [("g", []), ("k", [])])
        check_raises(self, Duplicate, {"name": "g"}, series, one, Net(["y", "z"], [("g", "f", [("y", [])])], [("g", [])]))
        check_raises(self, Idle, {"name": "k"}, series, one, Net(["y", "z"], [("h", "f", [("y", [])])], [("h", [])]))

    def test_nothing_that_is_passed_is_changed(self):
        one, other = feeder(), fed()
        before = one.rows(), other.rows()
        series(one, other), beside(one, other)
        self.assertEqual(before, (one.rows(), other.rows()))
        check_new(self, lambda: series(one, other).rows())


class TestBeside(unittest.TestCase):

    def test_none_and_one(self):
        self.assertEqual(Net([], [], []), beside())
        for net in (feeder(), fed(), small_net(), *deep_nets()[::9]):
            self.assertEqual(net, beside(net))

    def test_inputs_are_shared_by_their_names(self):
        one = Net(["x", "y"], [("g", "f", [("y", [])])], [("g", [0])], [("a", ())])
        two = Net(["z", "y"], [("h", "f", [("z", [0])])], [("y", []), ("h", [0])], [("b", ())])
        three = Net(["x"], [("k", "f", [("x", [1])])], [("k", [0])], [("a", ()), ("b", ())])
        told = beside(one, two, three)
        self.assertEqual(["x", "y", "z"], told.inputs())
        self.assertEqual([("g", "f", [("y", [])]), ("h", "f", [("z", [0])]), ("k", "f", [("x", [0])])], told.rows()[1])
        self.assertEqual(([("g", [1]), ("y", []), ("h", [0]), ("k", [1])], [("b", ()), ("a", ())]), told.rows()[2:])

    def test_networks_without_gates_several_times(self):
        wire = Net(["x"], [], [("x", [0])], [("a", ())])
        self.assertEqual((["x"], [], [("x", [0])] * 3, [("a", ())]), beside(wire, wire, wire).rows())

    def test_the_same_network_twice(self):
        net = feeder()
        check_raises(self, Duplicate, {"name": "g"}, beside, net, net)

    def test_answers_are_those_of_the_parts(self):
        for seed in range(40):
            nets = [with_other_names(random_net(seed + 100 * place, most=2), letter) for place, letter in enumerate("abc")]
            told = beside(*nets)
            meaning, rows = meaning_of_all(*nets), given_rows(told, LONG)
            expected = [[] for _ in rows]
            for net in nets:
                given = [[row[told.inputs().index(name)] for name in net.inputs()] for row in rows]
                for place, values in enumerate(answers(net, meaning, given)):
                    expected[place] += values
            self.assertEqual(expected, answers(told, meaning, rows))

    def test_no_networks(self):
        for value in no_nets():
            check_raises(self, InvalidNet, {"value": value}, beside, value)
            check_raises(self, InvalidNet, {"value": value}, beside, feeder(), value, None)
            # Before any name that is taken.
            check_raises(self, InvalidNet, {"value": value}, beside, feeder(), feeder(), value)

    def test_names_that_are_taken(self):
        one = Net(["x"], [("g", "f", [("x", [])]), ("h", "f", [("g", [])])], [("h", [])])
        for names, taken in ((["g"], "g"), (["k", "x"], "x"), (["k", "h", "g"], "h")):
            other = Net(["y"], [(name, "f", [("y", [])]) for name in names], [(name, []) for name in names])
            check_raises(self, Duplicate, {"name": taken}, beside, one, other)
        # The name of an input of a later network.
        later = Net(["h"], [("g", "f", [("h", [])])], [("g", [])])
        check_raises(self, Duplicate, {"name": "h"}, beside, one, later)
        check_raises(self, Duplicate, {"name": "g"}, beside, one, Net(["y"], [], []), Net(["g", "h"], [], []))
        check_raises(self, Duplicate, {"name": "g"}, beside, later, one)


class TestLooped(unittest.TestCase):

    def test_document(self):
        told = looped(loop_net(), 0, "y", [0], [("a", ())])
        self.assertEqual((["x"], [("g", "f", [("x", []), ("g", [0])])], [("g", [])], [("a", ())]), told.rows())
        self.assertEqual(told, looped(terms=[["a", []]], starts=(0,), entry="y", out=0, net=loop_net()))

    def test_the_order_of_the_starts(self):
        net = Net(["x", "y"], [("g", "f", [("x", []), ("y", [0])])], [("g", [1, 2]), ("y", [0, 2])],
                  [("a", ()), ("b", ()), ("c", ())])
        told = looped(net, 0, "y", [1, 0], [("d", ()), ("h", (0,))])
        rows = told.terms()
        self.assertEqual([["a", "h", "d", "b", "c"], ["a", "c", "h", "d", "b", "c"]],
                         [[rows[n][0] for n in starts] for _, starts in (told.edges("g")[1], told.outs()[1])])
        self.assertEqual([("g", 5), ("g", 6), ("g", 2)], [(told.source("g", 1), told.delays("g", 1)),
                                                         (told.source(1, 0), told.delays(1, 0)), (told.source(0, 0), told.delays(0, 0))])

    def test_terms_have_numbers_of_their_own(self):
        net = Net(["x", "y"], [("g", "f", [("x", [0]), ("y", [])])], [("g", [])], [("a", ())])
        told = looped(net, 0, "y", [0, 1], [("b", ()), ("a", ())])
        self.assertEqual(([("x", [0]), ("g", [1, 0])], [("a", ()), ("b", ())]), (told.edges("g"), told.terms()))
        # Terms that no start needs are left out.
        self.assertEqual(net.terms() + [("k", ())], looped(net, 0, "y", [1], [("b", ()), ("k", ())]).terms())

    def test_no_further_starts(self):
        net = Net(["x", "y"], [("g", "f", [("x", []), ("y", [0])])], [("g", [])], [("a", ())])
        self.assertEqual([("x", []), ("g", [0])], looped(net, 0, "y", []).edges("g"))
        net = Net(["x", "y"], [("g", "f", [("x", []), ("y", [])])], [("g", [0])], [("a", ())])
        self.assertEqual([("x", []), ("g", [0])], looped(net, 0, "y", [], ()).edges("g"))

    def test_an_input_with_several_edges_and_an_out_whose_source_is_read(self):
        gates = [("g", "f", [("x", []), ("y", [0])]), ("h", "k", [("y", []), ("g", []), ("y", [0, 0])])]
        net = Net(["x", "y"], gates, [("h", []), ("g", []), ("y", [0])], [("a", ())])
        told = looped(net, 1, "y", [0], [("b", ())])
        self.assertEqual([[("x", []), ("g", [0, 1])], [("g", [1]), ("g", []), ("g", [0, 0, 1])]], [told.edges("g"), told.edges("h")])
        self.assertEqual([("h", []), ("g", []), ("g", [0, 1])], told.outs())

    def test_an_out_that_leads_back_another_input(self):
        net = Net(["x", "y"], [("g", "f", [("x", []), ("y", [])])], [("g", []), ("x", [0])], [("a", ())])
        told = looped(net, 1, "y", [0], [("b", ())])
        self.assertEqual((["x"], [("g", "f", [("x", []), ("x", [0, 1])])], [("g", []), ("x", [1])]), told.rows()[:3])

    def test_no_inputs_left(self):
        net = Net(["x"], [], [])
        with self.assertRaises(UnknownEdge):
            looped(net, 0, "x", [])
        net = Net(["x", "y"], [], [("x", []), ("y", [])])
        self.assertEqual((["y"], [], [("y", [0]), ("y", [])]), looped(net, 1, "x", [0], [("a", ())]).rows()[:3])
        net = Net(["x"], [("g", "f", [("x", [])])], [("g", [0])], [("a", ())])
        check_raises(self, Dry, {"name": "g"}, looped, net, 0, "x", [0], [("a", ())])

    def test_an_input_without_edges(self):
        net = Net(["x", "y"], [("g", "f", [("x", [])])], [("g", [])])
        self.assertEqual(Net(["x"], [("g", "f", [("x", [])])], [("g", [])]), looped(net, 0, "y", []))
        net = Net(["y", "x"], [], [("x", [])])
        self.assertEqual((["x"], [], [("x", [])], []), looped(net, 0, "y", [0], [("a", ())]).rows())

    def test_answers_are_those_of_a_network_whose_out_is_led_back(self):
        joined = 0
        for seed in range(120):
            net = random_net(seed, most=4)
            chance = random.Random(seed)
            terms = random_terms(chance, "fk", 4)
            out, entry = chance.randrange(len(net.outs())), chance.choice(net.inputs())
            starts = [chance.randrange(4) for _ in range(1 + chance.randrange(3))]
            told = tried(looped, net, out, entry, starts, terms)
            if told is None:
                continue
            joined += 1
            numbers = {}
            result, plain = Model(told, numbers), Model(net, numbers)
            shown = result.answers(LONG)
            values = []
            for symbol, places in terms:
                values.append(plain.number(symbol, tuple(values[n] for n in places)))
            # The samples of the entry are what the out told some turns before.
            looped_values = [values[start] for start in starts]
            given = plain.value

            def value(name, turn):
                return looped_values[turn] if name == entry else given(name, turn)
            plain.value = value
            for turn in range(LONG):
                for name in net.names():
                    plain.value(name, turn)
                row = [plain.delivered(edge, turn) for edge in net.outs()]
                looped_values.append(row[out])
                self.assertEqual(shown[turn], row)
        self.assertGreater(joined, 25)

    def test_refused(self):
        net, row = loop_net(), [("a", ())]
        for value in no_nets():
            check_raises(self, InvalidNet, {"value": value}, looped, value, 0, "y", [0], row)
        for value in [value for value in any_values() if value.__class__ is not int or value != 0] + [1, -1, True, False, "0"]:
            check_raises(self, UnknownEdge, {"reader": value, "slot": 0}, looped, net, value, "y", [0], row)
        for value in any_values() + ["g", "f", "z", 0]:
            check_raises(self, UnknownSource, {"name": value}, looped, net, 0, value, [0], row)
        for value in no_lists():
            check_raises(self, InvalidPart, {"value": value}, looped, net, 0, "y", value, row)
            check_raises(self, InvalidPart, {"value": value}, looped, net, 0, "y", [0], value)
        for value in any_values():
            if value != ("a", ()) and value != ["a", []]:
                with self.assertRaises((InvalidRow, InvalidName)):
                    looped(net, 0, "y", [0], [value])
            if value.__class__ is not int or value not in (0, 1):
                starts = [0, value]
                check_raises(self, InvalidEdge, {"value": starts}, looped, net, 0, "y", starts, [("a", ()), ("b", ())])
        for row in (("a",), ("a", (0,)), ("a", (), 1), ("a", [1]), ("a", (True,)), ("a", (0, 0, 0, 0)), 5, None):
            check_raises(self, InvalidRow, {"value": row}, looped, net, 0, "y", [0], [("a", ()), row] if row != ("a", (0,)) else [row])
        check_raises(self, InvalidName, {"value": "A"}, looped, net, 0, "y", [0], [("A", ())])
        starts = [0]
        check_raises(self, InvalidEdge, {"value": starts}, looped, net, 0, "y", starts)
        starts = (0, 1)
        check_raises(self, InvalidEdge, {"value": starts}, looped, net, 0, "y", starts, [("a", ())])

    def test_a_loop_of_nothing_but_the_input(self):
        out = int("1")
        net = Net(["x", "y"], [("g", "f", [("x", []), ("y", [])])], [("g", []), ("y", [0])], [("a", ())])
        check_raises(self, EmptyLoop, {"out": out}, looped, net, out, "y", [0], [("b", ())])
        # Before a gate that no input is left for.
        net = Net(["y"], [("g", "f", [("y", [])])], [("y", []), ("g", [])])
        check_raises(self, EmptyLoop, {"out": 0}, looped, net, 0, "y", [])

    def test_rings_without_a_delay(self):
        for gates, ring in ((loop_net().rows()[1], ["g"]), ([("h", "k", [("y", [])]), ("g", "f", [("x", []), ("h", [])])], None)):
            net = Net(["x", "y"], gates, [("g", [])])
            with self.assertRaises(Ring) as caught:
                looped(net, 0, "y", [])
            self.assertEqual(sorted(ring or ["g", "h"]), sorted(caught.exception.gates))
        # A ring is told before a gate that no input leads to.
        net = Net(["y"], [("g", "f", [("y", [])])], [("g", [])])
        with self.assertRaises(Ring) as caught:
            looped(net, 0, "y", [])
        self.assertEqual(["g"], caught.exception.gates)
        check_raises(self, Dry, {"name": "g"}, looped, net, 0, "y", [0], [("a", ())])

    def test_the_order_of_the_checks(self):
        def no_net(arguments):
            arguments["net"] = value = [1]
            return InvalidNet, {"value": value}

        def no_out(arguments):
            arguments["out"] = value = [1]
            return UnknownEdge, {"reader": value, "slot": 0}

        def no_entry(arguments):
            arguments["entry"] = value = ["y"]
            return UnknownSource, {"name": value}

        def no_starts(arguments):
            arguments["starts"] = value = {0: 0}
            return InvalidPart, {"value": value}

        def no_terms(arguments):
            arguments["terms"] = value = {0: 0}
            return InvalidPart, {"value": value}

        def no_row(arguments):
            value = ["a"]
            arguments["terms"] = [value]
            return InvalidRow, {"value": value}

        def no_start(arguments):
            arguments["starts"] = value = [0, True]
            return InvalidEdge, {"value": value}

        def empty(arguments):
            arguments["entry"] = "z"
            arguments["out"] = 1
            return EmptyLoop, {"out": 1}

        def make():
            net = Net(["x", "y", "z"], [("g", "f", [("x", []), ("y", [])])], [("g", []), ("z", [])])
            return {"net": net, "out": 0, "entry": "y", "starts": [0], "terms": [("a", ())]}
        check_order(self, make, [no_net, no_out, no_entry, no_starts, no_terms, no_row], looped)
        check_order(self, make, [no_net, no_out, no_entry, no_terms, no_row, no_start], looped)
        for fault in (no_starts, no_terms, no_row, no_start):
            arguments = make()
            empty(arguments)
            error, fields = fault(arguments)
            check_raises(self, error, fields, looped, **arguments)
        arguments = make()
        error, fields = empty(arguments)
        check_raises(self, error, fields, looped, **arguments)

    def test_nothing_that_is_passed_is_changed(self):
        net, starts, terms = loop_net(), [0], [("a", ())]
        before = net.rows()
        told = looped(net, 0, "y", starts, terms)
        rows = told.rows()
        starts.append(0)
        terms.clear()
        self.assertEqual((before, rows), (net.rows(), told.rows()))


class TestExchange(unittest.TestCase):
    """[124]: alike parts may be exchanged."""

    def others(self, net, seed, letter):
        """Networks that are alike to a network, whose gates have names of their own."""
        forms = [net, advanced(net), least(net), canonical(net), hastened(net), shuffled(net, seed)]
        return [with_other_names(form, letter) for form in forms]

    def test_in_series(self):
        compared = 0
        for seed, (one, other) in enumerate(pairs_in_series(30)):
            expected = tried(series, one, other)
            if expected is None:
                continue
            for same, like in zip(self.others(one, seed, "a"), self.others(other, seed, "b")):
                for pair in ((same, other), (one, like), (same, like)):
                    told = tried(series, *pair)
                    if told is not None:
                        self.assertTrue(alike(expected, told))
                        compared += told != expected
        self.assertGreater(compared, 50)

    def test_beside(self):
        for seed in range(15):
            one, other = with_other_names(random_net(seed, most=3), "a"), with_other_names(random_net(seed + 50, most=3), "b")
            for same, like in zip(self.others(one, seed, "a"), self.others(other, seed, "b")):
                self.assertTrue(alike(beside(one, other), beside(same, like)))
                self.assertTrue(alike(beside(other, one), beside(like, same)))

    def test_looped(self):
        compared = 0
        for seed in range(60):
            net = random_net(seed, most=4)
            starts = [seed % 2] * (1 + seed % 3)
            arguments = (seed % len(net.outs()), net.inputs()[seed % len(net.inputs())], starts, [("a", ()), ("f", (0,))])
            expected = tried(looped, net, *arguments)
            for same in self.others(net, seed, "a"):
                told = tried(looped, same, *arguments)
                if expected is not None and told is not None:
                    compared += told != expected
                    self.assertTrue(alike(expected, told))
        self.assertGreater(compared, 30)


if __name__ == "__main__":
    unittest.main()
