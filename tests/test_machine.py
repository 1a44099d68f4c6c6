"""[53]: networks at work."""

import unittest

from helpers import any_values, check_new, check_order, check_raises, no_lists, no_names, no_nets, small_meaning
from helpers import small_net, spoil
from model import given_rows, many_nets, mixing_meaning
from toldpast.errors import InvalidMeaning, InvalidNet, InvalidValues, NoTurn, UnknownSource, UnknownSymbol
from toldpast.nets import Net
from toldpast.runs import Machine, answers, turns


def state(machine):
    """All that a machine tells of its state."""
    told = [machine.turn, machine.stored()]
    if machine.turn:
        told.append([machine.value_at(name) for name in ("x", "g")])
    return told


def small_machine(turn=0):
    machine = Machine(small_net(), small_meaning())
    for number in range(turn):
        machine([10 * number + 10])
    return machine


class TestTurns(unittest.TestCase):

    def test_document(self):
        machine = small_machine()
        told = [machine.stored(), machine([10]), machine.turn, machine.stored(), machine.value_at("g")]
        self.assertEqual([[[], [5], [6]], [6], 1, [[], [15], [15]], 15], told)

    def test_before_turn_zero(self):
        machine = Machine(meaning=small_meaning(), net=small_net())
        self.assertEqual((0, [[], [5], [6]]), (machine.turn, machine.stored()))

    def test_turn_by_turn(self):
        machine = small_machine()
        for turn, (value, answer, sum_now) in enumerate(((10, 6, 15), (20, 15, 35), (30, 35, 65))):
            self.assertEqual(turn, machine.turn)
            self.assertEqual([answer], machine(values=(value,)))
            self.assertEqual((turn + 1, value, sum_now), (machine.turn, machine.value_at("x"), machine.value_at(name="g")))
            self.assertEqual([[], [sum_now], [sum_now]], machine.stored())

    def test_no_inputs_and_no_outs(self):
        machine = Machine(Net([], [], []), {})
        self.assertEqual(([], [], [], 2), (machine([]), machine(()), machine.stored(), machine.turn))

    def test_it_answers_as_a_run_does(self):
        for net in many_nets():
            meaning, rows = mixing_meaning(net), given_rows(net, 30)
            machine = Machine(net, meaning)
            told = [machine(row) for row in rows]
            self.assertEqual(answers(net, meaning, rows), told)
            self.assertEqual(list(turns(net, meaning, rows)), told)
            self.assertEqual(30, machine.turn)

    def test_values_are_passed_on_as_the_very_objects(self):
        net = Net(["x"], [("g", "f", [("x", [0])])], [("g", [1]), ("x", [])], [("a", ()), ("h", (0,))])
        for value in any_values():
            constant, made = [value], {"made": value}
            meaning = {"a": lambda v: constant, "h": lambda v: v[0], "f": lambda v: made}
            machine = Machine(net, meaning)
            self.assertIs(constant, machine.stored()[0][0])
            told = machine([value])
            self.assertIs(constant, told[0])
            self.assertIs(value, told[1])
            self.assertIs(value, machine.value_at("x"))
            self.assertIs(made, machine.value_at("g"))
            self.assertIs(value, machine.stored()[0][0])
            self.assertIs(value, machine.copy().stored()[0][0])

    def test_the_meaning_may_be_changed_afterwards(self):
        meaning = small_meaning()
        machine = Machine(small_net(), meaning)
        meaning.clear()
        self.assertEqual([[6], [15]], [machine([10]), machine([20])])
        machine.reset()
        self.assertEqual([6], machine.copy()([10]))

    def test_what_is_passed_and_returned_may_be_changed(self):
        machine = small_machine()
        values = [10]
        told = machine(values)
        self.assertEqual([10], values)
        values.clear()
        told.clear()
        self.assertEqual((15, 10), (machine.value_at("g"), machine.value_at("x")))
        self.assertEqual([15], machine([20]))


class TestStored(unittest.TestCase):

    def test_edges_in_the_order_of_gates_and_slots_and_then_outs(self):
        gates = [("q", "f", [("p", [0, 1]), ("x", [])]), ("p", "f", [("x", [2]), ("q", [3])])]
        net = Net(["x"], gates, [("q", [4]), ("x", [5, 6]), ("p", [])], [(letter, ()) for letter in "abcdefg"])
        meaning = {letter: (lambda v, letter=letter: letter) for letter in "abcdeg"}
        meaning["f"] = lambda v: "(" + "".join(v) + ")" if v else "f"
        machine = Machine(net, meaning)
        self.assertEqual([["a", "b"], [], ["c"], ["d"], ["e"], ["f", "g"], []], machine.stored())
        self.assertEqual(["e", "f", "(cd)"], machine(["1"]))
        self.assertEqual([["b", "(cd)"], [], ["1"], ["(a1)"], ["(a1)"], ["g", "1"], []], machine.stored())
        machine(["2"])
        self.assertEqual([["(cd)", "(1(a1))"], [], ["2"], ["(b2)"], ["(b2)"], ["1", "2"], []], machine.stored())

    def test_thirty_delays(self):
        terms = [("a", ())] + [("h", (n,)) for n in range(29)]
        net = Net(["x"], [("g", "f", [("x", list(range(30))), ("g", [0] * 30)])], [("g", list(range(29, -1, -1)))], terms)
        machine = Machine(net, {"a": lambda v: 0, "h": lambda v: v[0] + 1, "f": lambda v: v[0] * 1000 + v[1]})
        self.assertEqual([list(range(30)), [0] * 30, list(range(29, -1, -1))], machine.stored())
        values = [1000 + n for n in range(45)]
        sums = []
        for turn, value in enumerate(values):
            machine([value])
            sums.append(machine.value_at("g"))
            waiting = (list(range(30)) + values[:turn + 1])[-30:]
            self.assertEqual([waiting, ([0] * 30 + sums)[-30:], (list(range(29, -1, -1)) + sums)[-30:]], machine.stored())
        self.assertEqual([(n if n < 30 else values[n - 30]) * 1000 + (sums[n - 30] if n >= 30 else 0) for n in range(45)],
                         sums)

    def test_what_is_stored_is_what_will_be_delivered(self):
        for net in many_nets():
            meaning, rows = mixing_meaning(net), given_rows(net, 40)
            machine = Machine(net, meaning)
            for row in rows[:5]:
                machine(row)
            outs = machine.stored()[len(machine.stored()) - len(net.outs()):]
            told = [machine(row) for row in rows[5:]]
            for place, held in enumerate(outs):
                self.assertEqual(net.delays(place, 0), len(held))
                self.assertEqual(held, [answer[place] for answer in told][:len(held)])

    def test_new_lists(self):
        machine = small_machine(2)
        told = check_new(self, machine.stored)
        spoil(machine.stored())
        self.assertEqual(told, machine.stored())
        self.assertEqual([35], machine([30]))


class TestCopy(unittest.TestCase):

    def test_a_copy_is_in_the_same_state(self):
        for turn in range(4):
            machine = small_machine(turn)
            other = machine.copy()
            self.assertIs(Machine, other.__class__)
            self.assertIsNot(machine, other)
            self.assertEqual(state(machine), state(other))
            self.assertEqual(machine([7]), other([7]))
            self.assertEqual(state(machine), state(other))

    def test_neither_has_an_effect_on_the_other(self):
        machine = small_machine(2)
        before = state(machine)
        other = machine.copy()
        other([100])
        other([200])
        self.assertEqual(before, state(machine))
        after = state(other)
        machine([5])
        machine.reset()
        machine([6])
        self.assertEqual(after, state(other))
        other.reset()
        self.assertEqual(1, machine.turn)
        self.assertEqual(state(small_machine()), state(other))

    def test_a_copy_of_a_copy(self):
        machine = small_machine(1)
        self.assertEqual(state(machine), state(machine.copy().copy()))

    def test_copies_of_many_networks(self):
        for net in many_nets():
            meaning, rows = mixing_meaning(net), given_rows(net, 20)
            machine = Machine(net, meaning)
            for row in rows[:8]:
                machine(row)
            other = machine.copy()
            told = [other(row) for row in rows[8:]]
            self.assertEqual(answers(net, meaning, rows, first=8), told)
            self.assertEqual(8, machine.turn)
            self.assertEqual(told, [machine(row) for row in rows[8:]])


class TestReset(unittest.TestCase):

    def test_reset(self):
        for turn in (0, 1, 3):
            machine = small_machine(turn)
            self.assertIs(None, machine.reset())
            self.assertEqual(state(small_machine()), state(machine))
            check_raises(self, NoTurn, {}, machine.value_at, "g")
            self.assertEqual([[6], [15]], [machine([10]), machine([20])])

    def test_reset_of_many_networks(self):
        for net in many_nets():
            meaning, rows = mixing_meaning(net), given_rows(net, 15)
            machine = Machine(net, meaning)
            first = machine.stored()
            told = [machine(row) for row in rows]
            machine.reset()
            self.assertEqual((0, first), (machine.turn, machine.stored()))
            self.assertEqual(told, [machine(row) for row in rows])


class TestRefused(unittest.TestCase):

    def test_no_network(self):
        for value in no_nets():
            check_raises(self, InvalidNet, {"value": value}, Machine, value, {})

    def test_no_meaning(self):
        for value in any_values():
            if not isinstance(value, dict):
                check_raises(self, InvalidMeaning, {"value": value}, Machine, small_net(), value)

    def test_the_order_of_the_checks(self):
        def no_net(arguments):
            arguments["net"] = None
            return InvalidNet, {"value": None}

        def no_meaning(arguments):
            arguments["meaning"] = value = ["a", "h", "f"]
            return InvalidMeaning, {"value": value}

        def no_symbol(name):
            def fault(arguments):
                arguments["meaning"].pop(name, None)
                return UnknownSymbol, {"name": name}
            return fault
        faults = [no_net, no_meaning, no_symbol("a"), no_symbol("h"), no_symbol("f")]
        check_order(self, lambda: {"net": small_net(), "meaning": small_meaning()}, faults, Machine)

    def test_wrong_values(self):
        wrong = no_lists() + [[], (), [1, 2], (1, 2), {"x": 1}]
        for turn in (0, 1, 2):
            machine = small_machine(turn)
            before = state(machine)
            for values in wrong:
                check_raises(self, InvalidValues, {"value": values}, machine, values)
                self.assertEqual(before, state(machine))
            self.assertEqual(small_machine(turn)([7]), machine([7]))
        value = [1]
        check_raises(self, InvalidValues, {"value": value}, Machine(Net([], [], []), {}), value)

    def test_unknown_sources(self):
        for turn in (0, 2):
            machine = small_machine(turn)
            for value in no_names() + ["f", "a", "h", "y", 0]:
                check_raises(self, UnknownSource, {"name": value}, machine.value_at, value)
            self.assertEqual(state(small_machine(turn)), state(machine))

    def test_no_turn(self):
        for name in ("x", "g"):
            check_raises(self, NoTurn, {}, small_machine().value_at, name)

    def test_machines_equal_only_themselves(self):
        machine = small_machine()
        self.assertTrue(machine == machine)
        for other in [machine.copy(), small_machine(), small_net()] + any_values():
            self.assertFalse(machine == other)

    def test_turn_is_not_assigned(self):
        with self.assertRaises(AttributeError):
            small_machine().turn = 3


if __name__ == "__main__":
    unittest.main()
