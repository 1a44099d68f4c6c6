"""[101], [102], [103], [104], [105]: single moves, plans of moves, and all rows of lags that are allowed."""

import inspect
import itertools
import unittest

from helpers import HUGE, any_values, check_new, check_order, check_raises, limit_seconds, no_lists, no_nets, small_net
from helpers import spoil
from kin import chain_net, deep_nets
from model import many_nets
from test_lagged import allowed_lags, box, raised, ring_of_two, two_deep
from toldpast.depths import depths
from toldpast.errors import InvalidInteger, InvalidLags, InvalidNet, InvalidPart, InvalidStep, TooDeep, TooMany, TooShort
from toldpast.errors import UnknownGate
from toldpast.lags import Lags, lagged
from toldpast.least import advanced, distances
from toldpast.moves import all_lags, move, moves, plan, ranges, stages
from toldpast.nets import Net

NO_STEPS = [0, 2, -2, HUGE, -HUGE]


def listed(net, steps):
    """What the generator gives."""
    return list(stages(net, steps))


def wide_net(many, delays=30):
    """Gates side by side, each of which can be moved by up to sixty turns."""
    gates = [(f"g{n}", "f", [("x", [0] * delays)]) for n in range(many)]
    return advanced(Net(["x"], gates, [(f"g{n}", [0] * delays) for n in range(many)], [("a", ())]))


class TestMove(unittest.TestCase):

    def test_document(self):
        net = two_deep()
        self.assertEqual([("p", 1), ("p", -1), ("q", 1), ("q", -1)], moves(net))
        self.assertEqual(lagged(net, {"q": 1}), move(net, "q", 1))

    def test_a_move_is_lagged(self):
        for net in deep_nets():
            for name in net.names():
                for step in (1, -1):
                    expected = raised(net, {name: step})
                    if expected is None:
                        self.assertEqual(lagged(net, {name: step}), move(step=step, gate=name, net=net))
                    elif expected[0] is TooDeep:
                        check_raises(self, TooDeep, {"name": name}, move, net, name, step)
                    else:
                        with self.assertRaises(TooShort) as caught:
                            move(net, name, step)
                        self.assertEqual(expected[1], (caught.exception.reader, caught.exception.slot))

    def test_moves_are_those_that_raise_nothing(self):
        many = 0
        for net in deep_nets():
            told = [(name, step) for name in net.names() for step in (1, -1) if raised(net, {name: step}) is None]
            self.assertEqual(told, moves(net))
            many += len(told)
        self.assertGreater(many, 300)
        self.assertEqual([], moves(net=Net([], [], [])))

    def test_a_gate_that_reads_itself(self):
        terms = [("a", ()), ("c", ()), ("f", (0, 1)), ("f", (0, 2))]
        net = Net(["x"], [("g", "f", [("x", [0]), ("g", [3])])], [("g", [3])], terms)
        self.assertEqual([("g", 1), ("g", -1)], moves(net))
        self.assertEqual([("g", [2])], move(net, "g", 1).edges("g")[1:])

    def test_new_lists(self):
        net = two_deep()
        told = check_new(self, moves, net)
        spoil(moves(net))
        self.assertEqual(told, moves(net))

    def test_refused(self):
        for value in no_nets():
            check_raises(self, InvalidNet, {"value": value}, move, value, "g", 1)
            check_raises(self, InvalidNet, {"value": value}, moves, value)
        for value in [value for value in any_values() if value != "g"] + ["x", "f", "nobody"]:
            check_raises(self, UnknownGate, {"name": value}, move, small_net(), value, 1)
        for value in [value for value in any_values() if value.__class__ is not int or value not in (1, -1)] + NO_STEPS:
            check_raises(self, InvalidStep, {"value": value}, move, two_deep(), "p", value)
            check_raises(self, InvalidStep, {"value": value}, move, step=value, gate="p", net=two_deep())
        check_raises(self, TooDeep, {"name": "g"}, move, Net(["x"], [("g", "f", [("x", [])])], [("g", [0])], [("a", ())]), "g", 1)
        check_raises(self, TooShort, {"reader": "g", "slot": 0}, move, small_net(), "g", -1)

    def test_the_order_of_the_checks(self):
        def no_net(arguments):
            arguments["net"] = value = [1]
            return InvalidNet, {"value": value}

        def no_gate(arguments):
            arguments["gate"] = value = ["x"]
            return UnknownGate, {"name": value}

        def no_step(arguments):
            arguments["step"] = value = [True]
            return InvalidStep, {"value": value}

        def too_short(arguments):
            # The gate is without depth too, but its edge to the out is looked at first.
            arguments["net"] = Net(["x"], [("p", "f", [("x", [])])], [("p", [])])
            return TooShort, {"reader": 0, "slot": 0}
        faults = [no_net, no_gate, no_step, too_short]
        check_order(self, lambda: {"net": two_deep(), "gate": "p", "step": 1}, faults[:3], move)
        for early in (1, 2):
            arguments = {"net": two_deep(), "gate": "p", "step": 1}
            too_short(arguments)
            error, fields = faults[early](arguments)
            check_raises(self, error, fields, move, **arguments)
        arguments = {"gate": "p", "step": 1}
        error, fields = too_short(arguments)
        check_raises(self, error, fields, move, **arguments)


class TestStages(unittest.TestCase):

    def test_each_move_on_the_result_of_the_one_before(self):
        net = two_deep()
        steps = [("q", 1), ("p", 1), ("q", -1), ["p", -1], ("p", -1)]
        told = listed(net, steps)
        now = net
        for (gate, step), stage in zip(steps, told, strict=True):
            now = move(now, gate, step)
            self.assertEqual(now, stage)
        self.assertEqual(lagged(net, {"p": -1}), told[-1])
        self.assertEqual(told, listed(net, tuple(tuple(item) for item in steps)))
        self.assertEqual(told, list(stages(steps=steps, net=net)))

    def test_no_moves(self):
        self.assertEqual([[], []], [listed(two_deep(), []), listed(Net([], [], []), ())])

    def test_it_is_a_generator(self):
        self.assertTrue(inspect.isgeneratorfunction(stages))
        self.assertTrue(inspect.isgenerator(stages(two_deep(), [])))

    def test_exceptions_come_when_the_network_is_requested(self):
        net = two_deep()
        for late, error, fields in ((("p", 2), InvalidStep, {"value": 2}), (("x", 1), UnknownGate, {"name": "x"}),
                                    (("q", 1), TooShort, {"reader": 0, "slot": 0}), ((1, 1), UnknownGate, {"name": 1}),
                                    (("p", True), InvalidStep, {"value": True})):
            told = stages(net, [("q", 1), late, ("p", 1)])
            self.assertEqual(lagged(net, {"q": 1}), next(told))
            check_raises(self, error, fields, next, told)
            self.assertIsNone(next(told, None))

    def test_refused_before_the_first_move(self):
        for value in no_nets():
            check_raises(self, InvalidNet, {"value": value}, listed, value, [])
        for value in no_lists():
            check_raises(self, InvalidPart, {"value": value}, listed, two_deep(), value)
        for item in [value for value in any_values() if not isinstance(value, (list, tuple)) or len(value) != 2]:
            check_raises(self, InvalidPart, {"value": item}, lambda: next(stages(two_deep(), [("q", 1), item, None])))
        for item in ((), ("p",), ("p", 1, 1), ["p", 1, None], "pq", {"p": 1, "q": 1}):
            check_raises(self, InvalidPart, {"value": item}, listed, two_deep(), [("nobody", 7), ("q", 1), item])

    def test_the_order_of_the_checks(self):
        def no_net(arguments):
            arguments["net"] = value = [1]
            return InvalidNet, {"value": value}

        def no_list(arguments):
            arguments["steps"] = value = {"p": 1}
            return InvalidPart, {"value": value}

        def no_pair(arguments):
            value = [1]
            arguments["steps"] = [("nobody", 7), value, [2]]
            return InvalidPart, {"value": value}

        def no_move(arguments):
            arguments["steps"] = [("nobody", 7)]
            return UnknownGate, {"name": "nobody"}
        check_order(self, lambda: {"net": two_deep(), "steps": [("q", 1)]}, [no_net, no_list, no_pair, no_move], listed)

    def test_the_list_may_be_changed_between_two_networks(self):
        net, steps = two_deep(), [("q", 1), ["p", 1]]
        told = stages(net, steps)
        next(told)
        steps[1][1] = -1
        steps.append(("q", 1))
        self.assertEqual([lagged(net, {"p": 1, "q": 1})], list(told))


class TestPlan(unittest.TestCase):

    def check_plan(self, net, lags, start=None):
        """Walk a plan step by step."""
        begin = Lags({}) if start is None else start if isinstance(start, Lags) else Lags(start)
        goal = lags if isinstance(lags, Lags) else Lags(lags)
        steps = check_new(self, plan, net, lags, start=start)
        self.assertEqual(abs(goal - begin), len(steps))
        first = lagged(net, begin)
        for item in steps:
            self.assertEqual((tuple, 2), (item.__class__, len(item)))
        now = begin
        for (gate, step), stage in zip(steps, stages(first, steps), strict=True):
            now = now + Lags({gate: step})
            self.assertEqual(lagged(net, now), stage)
        self.assertEqual(goal, now)
        return steps

    def test_document(self):
        net = two_deep()
        self.assertEqual([("p", 1), ("q", 1)], sorted(plan(net, {"p": 1, "q": 1})))
        self.assertEqual([("p", -1), ("p", -1)], plan(net, {"p": -1}, start={"p": 1}))

    def test_all_pairs_of_rows(self):
        for net in (two_deep(), ring_of_two(), small_net()):
            rows = all_lags(net)
            for one, other in itertools.product(rows, repeat=2):
                self.check_plan(net, one, other)

    def test_drawn_rows(self):
        longest = 0
        for seed, net in enumerate(deep_nets()[::2]):
            drawn = allowed_lags(net, seed, 3)
            for lags in drawn:
                longest = max(longest, len(self.check_plan(net, lags)))
                for start in drawn:
                    longest = max(longest, len(self.check_plan(net, lags, Lags(start))))
        self.assertGreater(longest, 8)

    def test_no_moves(self):
        net = two_deep()
        self.assertEqual([], plan(net, {}))
        self.assertEqual([], plan(net, {"p": 1}, start={"p": 1, "q": 0}))
        self.assertEqual([], plan(Net([], [], []), {"g": 0}))
        self.assertEqual([("q", -1)], plan(start={"q": 1}, lags={}, net=net))

    def test_gates_that_must_be_moved_before_others(self):
        # Without delays between them, the last gate is moved first, and on the way back the first one.
        net = advanced(chain_net(["aa", "", "", "", ""], 1))
        order = [gate for gate, _ in self.check_plan(net, {f"g{n}": 2 for n in range(4)})]
        self.assertEqual("g3", order[0])
        order = [gate for gate, _ in self.check_plan(net, {}, {f"g{n}": 2 for n in range(4)})]
        self.assertEqual("g0", order[0])

    def test_up_and_down_at_once(self):
        both = 0
        for net in (two_deep(), ring_of_two()):
            for one, other in itertools.combinations(all_lags(net), 2):
                if not one.is_below(other) and not other.is_below(one):
                    both += 1
                    self.assertEqual({1, -1}, {step for _, step in self.check_plan(net, one, other)})
        self.assertGreater(both, 10)

    def test_long_plans(self):
        limit_seconds(self, 60)
        net = chain_net(["ab" * 15] * 9, 1)
        low = {f"g{n}": -30 * (n + 1) for n in range(8)}
        steps = plan(net, {}, start=low)
        self.assertEqual(1080, len(steps))
        self.assertEqual(1080, len(plan(net, low)))
        row = dict(low)
        for gate, step in steps:
            row[gate] += step
            if row[gate] % 10 == 0:
                self.assertIsNone(raised(net, row))
        self.assertEqual({name: 0 for name in low}, row)

    def test_refused(self):
        net = two_deep()
        for value in no_nets():
            check_raises(self, InvalidNet, {"value": value}, plan, value, {})
        for value in any_values():
            if not isinstance(value, Lags) and not (isinstance(value, dict) and value in ({}, {"a": 1})):
                check_raises(self, InvalidLags, {"value": value}, plan, net, value)
                if value is not None:
                    check_raises(self, InvalidLags, {"value": value}, plan, net, {}, start=value)
        for wrong, error, fields in (({"x": 1}, UnknownGate, {"name": "x"}), ({"q": 2}, TooShort, {"reader": 0, "slot": 0}),
                                     ({"p": 2, "q": 1}, TooDeep, {"name": "p"}), ({"q": -HUGE}, TooShort, {"reader": "q", "slot": 0})):
            check_raises(self, error, fields, plan, net, wrong)
            check_raises(self, error, fields, plan, net, {}, start=wrong)
            check_raises(self, error, fields, plan, net, wrong, start=Lags({"p": -HUGE}))

    def test_the_order_of_the_checks(self):
        wrong = [({"p": True}, InvalidLags), ({"nobody": 1}, UnknownGate), ({"q": 2}, TooShort), ({"p": 2, "q": 1}, TooDeep)]
        for (lags, error), (start, _) in itertools.product(wrong, repeat=2):
            with self.assertRaises(error):
                plan(two_deep(), lags, start=start)
            check_raises(self, InvalidNet, {"value": 5}, plan, 5, lags, start=start)
        one, other = {"g": None}, {"g": None}
        check_raises(self, InvalidLags, {"value": one}, plan, two_deep(), one, start=other)
        check_raises(self, InvalidLags, {"value": None}, plan, two_deep(), None)
        check_raises(self, InvalidLags, {"value": None}, plan, two_deep(), None, start=None)

    def test_nothing_that_is_passed_is_changed(self):
        net, lags, start = two_deep(), {"p": 1, "q": 1}, {"p": -1, "q": 0}
        before = net.rows()
        plan(net, lags, start=start)
        self.assertEqual((before, {"p": 1, "q": 1}, {"p": -1, "q": 0}), (net.rows(), lags, start))


class TestRows(unittest.TestCase):

    def test_document(self):
        net = two_deep()
        self.assertEqual([("p", (-1, 1)), ("q", (-2, 1))], sorted(ranges(net).items()))
        self.assertEqual([{"p": -1, "q": -2}, 9], [all_lags(net)[0].rows(), len(all_lags(net))])

    def test_ranges(self):
        for net in deep_nets():
            early, deep = distances(net), depths(net)
            self.assertEqual({name: (-early[name], deep[name]) for name in net.names()}, ranges(net))
        self.assertEqual({}, ranges(net=Net(["x"], [], [])))
        check_new(self, ranges, two_deep())

    def small_nets(self):
        """Networks with few rows of lags."""
        found = [net for net in deep_nets() if 1 < len(net) < 4 and max(depths(net).values()) + max(distances(net).values()) < 5]
        return [two_deep(), ring_of_two(), small_net(), *found[::4]]

    def test_all_rows_of_a_box(self):
        many = 0
        for net in self.small_nets():
            rows = [lags for lags in box(net) if raised(net, lags) is None]
            told = all_lags(net, most=2000)
            self.assertEqual([Lags(row) for row in rows], told)
            many += len(rows)
            for name, (low, high) in ranges(net).items():
                self.assertEqual(set(range(low, high + 1)), {row[name] for row in rows})
        self.assertGreater(many, 200)

    def test_ascending(self):
        for net in deep_nets()[::2]:
            try:
                told = all_lags(net)
            except TooMany:
                continue
            keys = [[row[name] for name in net.names()] for row in told]
            self.assertEqual(sorted(keys), keys)
            self.assertEqual(len(keys), len({tuple(key) for key in keys}))

    def test_closed_under_maximum_and_minimum(self):
        for net in self.small_nets():
            told = all_lags(net)
            for one, other in itertools.product(told[:20], told[-20:]):
                self.assertIn(one | other, told)
                self.assertIn(one & other, told)
                lagged(net, one | other), lagged(net, one & other)

    def test_the_least_row_advances_and_the_greatest_one_is_deepest(self):
        for net in self.small_nets():
            told = all_lags(net)
            self.assertEqual(Lags({name: low for name, (low, _) in ranges(net).items()}), told[0])
            self.assertEqual(Lags({name: high for name, (_, high) in ranges(net).items()}), told[-1])
            self.assertEqual([advanced(net), Lags(depths(net))], [lagged(net, told[0]), told[-1]])

    def test_no_gates(self):
        for net in (Net([], [], []), Net(["x"], [], [("x", [])])):
            self.assertEqual([Lags({})], all_lags(net))
            self.assertEqual([Lags({})], all_lags(net, most=1))

    def test_most(self):
        net = two_deep()
        self.assertEqual(9, len(all_lags(net, most=9)))
        self.assertEqual(9, len(all_lags(most=2000, net=net)))
        most = int("8")
        check_raises(self, TooMany, {"most": most}, all_lags, net, most=most)
        check_raises(self, TooMany, {"most": 1}, all_lags, net, most=1)
        self.assertEqual([], moves(small_net()))
        self.assertEqual([Lags({})], all_lags(small_net(), most=1))

    def test_two_hundred_by_default(self):
        # Two gates that are free of each other: as many rows as the product of their ranges.
        for first, second, many in ((9, 19, 200), (2, 66, 201)):
            gates = [("p", "f", [("x", [0] * first)]), ("q", "f", [("x", [0] * second)])]
            net = Net(["x"], gates, [("p", []), ("q", [])], [("a", ())])
            self.assertEqual({"p": (-first, 0), "q": (-second, 0)}, ranges(net))
            if many <= 200:
                self.assertEqual(many, len(all_lags(net)))
                check_raises(self, TooMany, {"most": 199}, all_lags, net, most=199)
            else:
                check_raises(self, TooMany, {"most": 200}, all_lags, net)
                self.assertEqual(many, len(all_lags(net, most=201)))

    def test_very_many_rows_are_refused_promptly(self):
        limit_seconds(self, 20)
        check_raises(self, TooMany, {"most": 2000}, all_lags, wide_net(8), most=2000)
        check_raises(self, TooMany, {"most": 200}, all_lags, wide_net(8))
        check_raises(self, TooMany, {"most": 200}, all_lags, chain_net(["ab" * 15] * 9, 1))

    def test_refused(self):
        for value in no_nets():
            check_raises(self, InvalidNet, {"value": value}, ranges, value)
            check_raises(self, InvalidNet, {"value": value}, all_lags, value)
            check_raises(self, InvalidNet, {"value": value}, all_lags, value, most=True)
        for value in [value for value in any_values() if value.__class__ is not int] + [0, -1, 2001, HUGE, True]:
            check_raises(self, InvalidInteger, {"value": value}, all_lags, two_deep(), most=value)
        # The number is looked at before the rows are.
        check_raises(self, InvalidInteger, {"value": 2001}, all_lags, wide_net(8), most=2001)

    def test_new_lists(self):
        for net in (two_deep(), small_net()):
            told = check_new(self, all_lags, net)
            all_lags(net).clear()
            spoil(all_lags(net)[0].rows())
            self.assertEqual(told, all_lags(net))

    def test_many_networks_are_answered(self):
        limit_seconds(self, 30)
        for net in many_nets():
            try:
                told = all_lags(net)
            except TooMany:
                continue
            for row in told[::7]:
                lagged(net, row)


if __name__ == "__main__":
    unittest.main()
