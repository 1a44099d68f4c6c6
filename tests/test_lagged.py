"""[92], [93], [94]: networks with other lags, and which rows of lags are allowed."""

import itertools
import random
import unittest

from helpers import HUGE, any_values, check_new, check_order, check_raises, limit_seconds, no_nets, small_net
from kin import chain_net, deep_nets
from model import Model, answers_of, given_rows, mixing_meaning
from test_depths import PlainPasts
from toldpast.compare import alike
from toldpast.depths import depths
from toldpast.errors import InvalidLags, InvalidNet, NetError, StateError, TooDeep, TooShort, UnknownGate
from toldpast.lags import Lags, deepest, lagged
from toldpast.least import advanced, canonical, distances
from toldpast.nets import Net
from toldpast.runs import Machine, answers


def two_deep():
    """The network of the document."""
    terms = [("a", ()), ("f", (0,)), ("b", ()), ("f", (2,))]
    return Net(["x"], [("p", "f", [("x", [0])]), ("q", "f", [("p", [1])])], [("q", [3])], terms)


def ring_of_two():
    """A ring of two gates, both of which can be moved, and an input that is read twice."""
    terms = [("a", ()), ("b", ()), ("f", (0, 1)), ("k", (2,)), ("f", (0, 3)), ("k", (4,))]
    gates = [("p", "f", [("x", [0, 0]), ("q", [5])]), ("q", "k", [("p", [2, 4])])]
    return Net(["x"], gates, [("q", [3, 5]), ("p", [2, 4])], terms)


def refusal(net, lags):
    """What lagged raises for lags of gates, told by the words of [92], with the depths as told; None if it is nothing."""
    _, gates, outs, _ = net.rows()
    for name, _, edges in gates:
        for slot, (source, starts) in enumerate(edges):
            if len(starts) + lags.get(name, 0) - lags.get(source, 0) < 0:
                return TooShort, (name, slot)
    for number, (source, starts) in enumerate(outs):
        if len(starts) - lags.get(source, 0) < 0:
            return TooShort, (number, 0)
    told = depths(net)
    for name in net.names():
        if lags.get(name, 0) > told[name]:
            return TooDeep, name
    return None


def raised(net, lags):
    """What lagged raises, and None if it raises nothing."""
    try:
        lagged(net, lags)
    except TooShort as error:
        return TooShort, (error.reader, error.slot)
    except TooDeep as error:
        return TooDeep, error.name
    return None


def box(net, wide=1):
    """All rows of lags that go a little beyond the distances and the depths of the gates."""
    early, deep = distances(net), depths(net)
    ranges = [range(-early[name] - wide, deep[name] + wide + 1) for name in net.names()]
    return [dict(zip(net.names(), lags)) for lags in itertools.product(*ranges)]


def allowed_lags(net, seed, many=3):
    """Some rows of lags that are allowed, drawn by chance."""
    chance = random.Random(seed)
    early, deep = distances(net), depths(net)
    found = []
    for _ in range(40):
        lags = {name: chance.randrange(-early[name], deep[name] + 1) for name in net.names()}
        if len(found) < many and refusal(net, lags) is None:
            found.append(lags)
    return found


class TestLagged(unittest.TestCase):

    def test_document(self):
        rows = ([("p", "f", [("x", [0])]), ("q", "f", [("p", [1, 2])])], [("q", [])], [("a", ()), ("b", ()), ("f", (0,))])
        self.assertEqual(rows, lagged(two_deep(), {"q": 1}).rows()[1:])
        check_raises(self, TooDeep, {"name": "p"}, lagged, two_deep(), {"p": 2, "q": 1})

    def test_no_lags(self):
        for net in deep_nets()[::3] + [Net([], [], [])]:
            for lags in ({}, Lags({}), {name: 0 for name in net.names()}, {"nobody": 0}, {name: 0 for name in net.inputs()}):
                self.assertEqual(net, lagged(net, lags))
                self.assertEqual(net, lagged(lags=lags, net=net))

    def test_lags_objects_and_dicts(self):
        for lags in ({"q": 1}, {"q": 1, "p": 0}, {"p": -1, "q": -2}, {"x": 0, "q": 1, "a": 0}):
            self.assertEqual(lagged(two_deep(), lags), lagged(two_deep(), Lags(lags)))

    def check_starts(self, net, lags):
        """Check each edge of a lagged network by the words of [92]."""
        told = lagged(net, lags)
        self.assertEqual((net.inputs(), net.names(), len(net.outs())), (told.inputs(), told.names(), len(told.outs())))
        plain = PlainPasts(net)
        model = plain.model
        model.answers(max([0] + [-lag for lag in lags.values()]) + 40)
        other = Model(told, model.numbers)
        plain.rows = {number: row for row, number in model.numbers.items()}
        pairs = []
        for name in net.names():
            self.assertEqual(net.symbol(name), told.symbol(name))
            for slot, edges in enumerate(zip(net.edges(name), told.edges(name), strict=True)):
                pairs.append((*edges, name, slot))
        pairs += [(*edges, None, 0) for edges in zip(net.outs(), told.outs(), strict=True)]
        for (source, starts), edge, reader, slot in pairs:
            late = lags.get(reader, 0)
            self.assertEqual((source, len(starts) + late - lags.get(source, 0)), (edge[0], len(edge[1])))
            for place in range(len(edge[1])):
                turn = place - late
                if turn >= 0:
                    expected = model.delivered((source, starts), turn)
                else:
                    expected = plain.rows[plain.value(reader, -turn)][1][slot]
                self.assertEqual(expected, other.delivered(edge, place))
        # Terms in the standard form of [32], as every network has them.
        self.assertEqual(told.rows(), Net(*told.rows()).rows())
        return told

    def test_starts_by_the_words(self):
        moved = 0
        for seed, net in enumerate(deep_nets()):
            for lags in allowed_lags(net, seed):
                moved += any(lags.values())
                self.check_starts(net, lags)
        self.assertGreater(moved, 200)

    def test_all_rows_of_a_box(self):
        for net in (two_deep(), ring_of_two(), small_net(), advanced(chain_net(["ab", "", "c", "a"]))):
            fine = 0
            for lags in box(net):
                expected = refusal(net, lags)
                self.assertEqual(expected, raised(net, lags), lags)
                if expected is None:
                    fine += 1
                    self.assertTrue(alike(net, self.check_starts(net, lags)))
            self.assertGreater(fine, 0)

    def test_the_lags_of_a_ring(self):
        net = ring_of_two()
        self.assertEqual([{"p": 2, "q": 2}, {"p": 2, "q": 4}], [depths(net), distances(net)])
        self.assertIsNone(raised(net, {"p": 2, "q": 2}))
        self.assertIsNone(raised(net, {"p": -2, "q": -4}))
        self.assertEqual((TooShort, ("p", 1)), raised(net, {"p": -2, "q": 0}))

    def test_each_gate_has_its_values_later(self):
        for seed, net in enumerate(deep_nets()[::4]):
            meaning, rows = mixing_meaning(net), given_rows(net, 30)
            for lags in allowed_lags(net, seed):
                one, two = Machine(net, meaning), Machine(lagged(net, lags), meaning)
                values, later = [], []
                for row in rows:
                    one(row), two(row)
                    values.append({name: one.value_at(name) for name in net.names()})
                    later.append({name: two.value_at(name) for name in net.names()})
                for name, lag in lags.items():
                    for turn in range(max(0, lag), min(30, 30 + lag)):
                        self.assertEqual(values[turn - lag][name], later[turn][name])

    def test_a_gate_that_reads_itself(self):
        terms = [("a", ()), ("c", ()), ("f", (0, 1)), ("f", (0, 2))]
        net = Net(["x"], [("g", "f", [("x", []), ("g", [3])])], [("g", [2, 3])], terms)
        told = lagged(net, {"g": 2})
        self.assertEqual(([("g", "f", [("x", [0, 0]), ("g", [1])])], [("g", [])], [("a", ()), ("c", ())]), told.rows()[1:])
        self.assertEqual(net, lagged(told, {"g": -2}))

    def test_an_input_that_is_read_by_an_out(self):
        net = Net(["x"], [("g", "f", [("x", [0])])], [("x", [0, 1]), ("g", [])], [("a", ()), ("b", ())])
        told = lagged(net, {"g": -1}).rows()
        self.assertEqual([("x", [0, 1]), ("g", [2])], told[2])
        self.assertEqual([("a", ()), ("b", ()), ("f", (0,))], told[3])

    def test_many_delays(self):
        limit_seconds(self, 30)
        net = chain_net(["ab" * 15] * 9, 1)
        early = lagged(net, {f"g{n}": -30 * (n + 1) for n in range(8)})
        self.assertEqual([advanced(net), 270], [early, early.delays(0, 0)])
        late = lagged(early, {f"g{n}": 30 * (n + 1) for n in range(8)})
        self.assertEqual(net, late)
        self.assertTrue(alike(net, early))

    def test_terms_that_are_large_when_they_are_written_out(self):
        limit_seconds(self, 30)
        gates = [(f"g{n}", "f", [(f"g{n}", [0]), (f"g{n}", [0]), ("x" if n == 0 else f"g{n - 1}", [0] * 30)])
                 for n in range(8)]
        net = Net(["x"], gates, [("g7", [0] * 30)], [("a", ())])
        early = lagged(net, {f"g{n}": -30 * (n + 1) for n in range(8)})
        self.assertEqual(advanced(net), early)
        self.assertEqual(net, lagged(early, depths(early)))
        self.assertEqual(net, deepest(early))


class TestRefused(unittest.TestCase):

    def test_no_network(self):
        for value in no_nets():
            check_raises(self, InvalidNet, {"value": value}, lagged, value, {})
            check_raises(self, InvalidNet, {"value": value}, deepest, value)
            check_raises(self, InvalidNet, {"value": value}, deepest, net=value)

    def test_no_lags(self):
        wrong = [value for value in any_values() if not isinstance(value, (dict, Lags))]
        wrong += [{"g": True}, {"g": None}, {"G": 0}, {1: 1}, {"g": "1"}, {"g": Lags({})}, [("g", 1)]]
        for value in wrong:
            check_raises(self, InvalidLags, {"value": value}, lagged, small_net(), value)
            check_raises(self, InvalidLags, {"value": value}, lagged, lags=value, net=small_net())

    def test_names_that_are_no_gates(self):
        for name in ("x", "a", "f", "nobody"):
            for lag in (1, -1, HUGE, -HUGE):
                for lags in ({name: lag}, Lags({name: lag}), {"g": 0, name: lag}, {"g": HUGE, name: lag}):
                    check_raises(self, UnknownGate, {"name": name}, lagged, small_net(), lags)

    def test_of_several_unknown_names_one_is_told_in_whatever_order_they_stand(self):
        told = []
        for lags in ({"u": 1, "b": 1, "x": 1}, {"x": 1, "u": 1, "b": 1}, {"b": 1, "x": 1, "u": 1}):
            try:
                lagged(small_net(), lags)
            except UnknownGate as error:
                told.append(error.name)
        self.assertEqual(["b"] * 3, told)

    def test_the_first_edge_that_is_too_short(self):
        net = ring_of_two()
        for lags, edge in (({"p": -3}, ("p", 0)), ({"q": 2}, ("p", 1)), ({"q": -3}, ("q", 0)), ({"p": 3, "q": 3}, (0, 0)),
                           ({"p": 3, "q": 2}, (1, 0)), ({"p": -2, "q": 3}, ("p", 1)), ({"p": 2, "q": -1}, ("q", 0)),
                           ({"p": -HUGE, "q": HUGE}, ("p", 0))):
            check_raises(self, TooShort, {"reader": edge[0], "slot": edge[1]}, lagged, net, lags)

    def test_the_slot_of_an_out_is_zero_and_its_number_an_integer(self):
        net = Net(["x"], [("g", "f", [("x", [])])], [("x", []), ("g", [0]), ("g", [0])], [("a", ())])
        try:
            lagged(net, {"g": 2})
        except TooShort as error:
            self.assertEqual([(1, int), (0, int)], [(error.reader, error.reader.__class__), (error.slot, error.slot.__class__)])

    def test_the_first_gate_that_is_too_deep(self):
        terms = [("a", ()), ("b", ())]
        gates = [("p", "f", [("x", [])]), ("q", "g", [("p", [0, 0])]), ("r", "h", [("q", [0])])]
        net = Net(["x"], gates, [("r", [0, 0])], terms)
        self.assertEqual({"p": 0, "q": 0, "r": 0}, depths(net))
        for lags, name in (({"p": 1}, "p"), ({"p": 1, "q": 1}, "p"), ({"q": 1}, "q"), ({"r": 1, "q": 1}, "q"), ({"r": 2}, "r")):
            check_raises(self, TooDeep, {"name": name}, lagged, net, lags)

    def test_a_lag_is_at_most_the_depth(self):
        net = two_deep()
        self.assertIsNone(raised(net, {"p": 1}))
        long = Net(["x"], net.rows()[1], [("q", [0, 3, 3])], net.terms())
        self.assertEqual({"p": 1, "q": 2}, depths(long))
        self.assertIsNone(raised(long, {"p": 1, "q": 2}))
        check_raises(self, TooDeep, {"name": "q"}, lagged, long, {"q": 3})
        check_raises(self, TooDeep, {"name": "p"}, lagged, long, {"p": 2, "q": 2})

    def test_lags_of_thirty_digits(self):
        limit_seconds(self, 10)
        for net in deep_nets()[::5] + [chain_net(["ab" * 15] * 9, 1)]:
            for lag in (HUGE, -HUGE):
                for name in net.names():
                    for lags in ({name: lag}, {other: lag for other in net.names()}):
                        self.assertEqual(refusal(net, lags), raised(net, lags))
                        self.assertIs(TooShort, raised(net, Lags(lags))[0])

    def test_the_order_of_the_checks(self):
        def no_net(arguments):
            arguments["net"] = value = [1]
            return InvalidNet, {"value": value}

        def no_lags(arguments):
            arguments["lags"] = value = {"p": True, "nobody": 1}
            return InvalidLags, {"value": value}

        def no_gate(arguments):
            arguments["lags"]["nobody"] = 1
            return UnknownGate, {"name": "nobody"}

        def too_short(arguments):
            arguments["lags"]["p"] = 3
            return TooShort, {"reader": 1, "slot": 0}

        def too_deep(arguments):
            arguments["lags"]["r"] = 1
            return TooDeep, {"name": "r"}

        def make():
            net = ring_of_two()
            inputs, gates, outs, terms = net.rows()
            gates.append(("r", "h", [("x", [])]))
            return {"net": Net(inputs, gates, [*outs, ("r", [0])], terms), "lags": {"p": 2, "q": 2}}
        lagged(**make())
        faults = [no_net, no_lags, no_gate, too_short, too_deep]
        for late in range(len(faults)):
            for early in range(late + 1):
                arguments = make()
                if faults[late] is not no_lags:
                    faults[late](arguments)
                error, fields = faults[early](arguments)
                check_raises(self, error, fields, lagged, **arguments)
        check_order(self, make, faults[:2], lagged)

    def test_nothing_that_is_passed_is_changed(self):
        net, lags = two_deep(), {"q": 1, "p": 0}
        before = net.rows()
        lagged(net, lags), deepest(net)
        for wrong in ({"q": HUGE}, {"x": 1}, {"p": 1, "q": 3}):
            with self.assertRaises((NetError, StateError, KeyError)):
                lagged(net, wrong)
        self.assertEqual((before, {"q": 1, "p": 0}), (net.rows(), lags))

    def test_the_caller_may_change_the_dict_afterwards(self):
        net, lags = two_deep(), {"q": 1}
        told = lagged(net, lags)
        rows = told.rows()
        lags["q"] = 0
        self.assertEqual(rows, check_new(self, told.rows))


class TestDeepest(unittest.TestCase):

    def test_lagged_by_all_depths(self):
        for net in deep_nets():
            told = deepest(net=net)
            self.assertEqual(lagged(net, depths(net)), told)
            self.assertEqual({name: 0 for name in net.names()}, depths(told))
            self.assertEqual(told, deepest(told))
            self.assertEqual(canonical(net), canonical(told))

    def test_of_an_advanced_network(self):
        for net in deep_nets()[::2]:
            self.assertEqual(deepest(net), deepest(advanced(net)))
            self.assertEqual(advanced(net), advanced(deepest(net)))

    def test_no_gates(self):
        for net in (Net([], [], []), Net(["x"], [], [("x", [0])], [("a", ())])):
            self.assertEqual(net, deepest(net))


class TestAllowed(unittest.TestCase):

    def test_negative_distances_advance(self):
        for net in deep_nets():
            self.assertEqual(advanced(net), lagged(net, {name: -many for name, many in distances(net).items()}))

    def test_answers_stay_at_every_turn_of_a_long_run(self):
        for seed, net in enumerate(deep_nets()):
            for lags in allowed_lags(net, seed, 2):
                told = lagged(net, lags)
                one, two = answers_of([net, told], 60)
                self.assertEqual(one, two)
                self.assertTrue(alike(net, told))
                meaning, rows = mixing_meaning(net), given_rows(net, 25)
                self.assertEqual(answers(net, meaning, rows), answers(told, meaning, rows))

    def test_depths_and_distances_of_the_result(self):
        for seed, net in enumerate(deep_nets()):
            for lags in allowed_lags(net, seed, 2):
                told = lagged(net, lags)
                self.assertEqual({name: many - lags[name] for name, many in depths(net).items()}, depths(told))
                self.assertEqual({name: many + lags[name] for name, many in distances(net).items()}, distances(told))
                self.assertEqual(net, lagged(told, -Lags(lags)))

    def test_lags_beyond_a_depth_are_refused(self):
        refused = 0
        for seed, net in enumerate(deep_nets()):
            deep = depths(net)
            for name in net.names():
                lags = {other: min(deep[other], deep[name] + 1) for other in net.names()}
                lags[name] = deep[name] + 1
                expected = refusal(net, lags)
                self.assertIsNotNone(expected)
                self.assertEqual(expected, raised(net, lags))
                refused += expected[0] is TooDeep
        self.assertGreater(refused, 300)

    def test_other_starts_are_never_alike(self):
        # Each choice of starts for a moved network: exactly one of them is alike if the row is allowed, otherwise none.
        terms = [("a", ()), ("b", ()), ("f", (0,)), ("f", (1,)), ("f", (2,))]
        for starts in itertools.product(range(5), repeat=2):
            net = Net(["x"], [("g", "f", [("x", [1])])], [("g", list(starts))], terms)
            for lag in range(-1, 3):
                fitting = []
                for chosen in itertools.product(range(5), repeat=3):
                    moved = Net(["x"], [("g", "f", [("x", list(chosen[:1 + lag]))])], [("g", list(chosen[1 + lag:]))], terms)
                    if alike(net, moved):
                        fitting.append(moved)
                if raised(net, {"g": lag}) is None:
                    self.assertEqual([lagged(net, {"g": lag})], fitting)
                else:
                    self.assertEqual([], fitting)


if __name__ == "__main__":
    unittest.main()
