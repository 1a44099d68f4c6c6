"""[63], [64], [65], [66]: classes of gates, the smallest network, and its standard form."""

import unittest

from helpers import check_new, limit_seconds, small_net, spoil
from kin import hastened, shuffled
from model import Model, answers_of, doubled_net, early_ring_net, given_rows, many_nets, mixing_meaning, random_net
from model import rings_net
from toldpast.least import advanced, canonical, classes, distances, least
from toldpast.nets import Net, renamed
from toldpast.nettext import net_of, text_of
from toldpast.runs import answers

LONG = 60


def doubled_example():
    return Net(["x"], [("p", "f", [("x", [0])]), ("q", "f", [("x", [])])], [("p", []), ("q", [])], [("a", ())])


def classes_by_values(net, count=LONG):
    """The classes, told by the values of the gates at the turns of a long run of the advanced network."""
    early = advanced(net)
    model = Model(early)
    model.answers(count)
    found = {}
    for name in net.names():
        found.setdefault(tuple(model.value(name, turn) for turn in range(count)), []).append(name)
    return list(found.values())


class TestClasses(unittest.TestCase):

    def test_document(self):
        one = doubled_example()
        rows = (["x"], [("g0", "f", [("x", [])])], [("g0", [1]), ("g0", [])], [("a", ()), ("f", (0,))])
        self.assertEqual([[["p", "q"]], rows], [classes(one), canonical(one).rows()])

    def test_no_gates(self):
        self.assertEqual([[], []], [classes(Net([], [], [])), classes(Net(["x"], [], [("x", [])]))])

    def test_gates_that_are_alone(self):
        self.assertEqual([["g"]], classes(small_net()))
        gates = [("p", "f", [("x", [])]), ("q", "g", [("x", [])]), ("r", "f", [("x", []), ("x", [])]),
                 ("s", "f", [("y", [])]), ("t", "f", [("p", [])]), ("u", "f", [("x", []), ("x", [0])])]
        outs = [(name, []) for name, _, _ in gates]
        net = Net(["x", "y"], gates, outs, [("a", ())])
        self.assertEqual([[name] for name in "pqrstu"], classes(net))
        self.assertEqual(net, least(net))

    def test_gates_that_differ_in_one_start(self):
        gates = [(name, "f", [("x", []), (name, [start, 0])]) for name, start in (("p", 0), ("q", 1), ("r", 0), ("s", 2))]
        net = Net(["x"], gates, [(name, []) for name in "pqrs"], [("a", ()), ("b", ()), ("f", (1,))])
        self.assertEqual([["p", "r"], ["q"], ["s"]], classes(net))

    def test_gates_that_differ_in_the_number_of_delays(self):
        gates = [(name, "f", [("x", []), ("x", [0] * many)]) for name, many in (("p", 1), ("q", 2), ("r", 1), ("s", 0))]
        net = Net(["x"], gates, [(name, []) for name in "pqrs"], [("a", ())])
        self.assertEqual([["p", "r"], ["q"], ["s"]], classes(net))

    def test_equal_starts_of_the_given_network_that_are_delivered_late(self):
        # Both gates have the starts a and b, but one of them is asked a turn later.
        gates = [("p", "f", [("x", [0, 1])]), ("q", "f", [("x", [0])])]
        net = Net(["x"], gates, [("p", []), ("q", [1])], [("a", ()), ("b", ())])
        self.assertEqual([["p", "q"]], classes(net))
        self.assertEqual([("p", [1, 3]), ("p", [2, 1])], least(net).outs())
        self.assertEqual([("a", ()), ("f", (0,)), ("b", ()), ("f", (2,))], least(net).terms())

    def test_rings_that_rest_on_each_other(self):
        self.assertEqual([["a0", "b0"]], classes(rings_net(1)))
        self.assertEqual([["a0", "b0", "a1", "b1", "a2", "b2"]], classes(rings_net(3)))
        self.assertEqual((["x"], [("a0", "f", [("a0", [0]), ("x", [])])], [("a0", [])] * 3, [("c", ())]),
                         least(rings_net(3)).rows())

    def test_rings_of_different_length(self):
        gates = [(f"g{n}", "f", [("x", []), (f"g{(n + 1) % 3}", [0])]) for n in range(3)]
        gates += [(f"h{n}", "f", [("x", []), (f"h{(n + 1) % 4}", [0])]) for n in range(4)]
        gates += [("k", "f", [("x", []), ("k", [0])])]
        net = Net(["x"], gates, [("g0", []), ("h0", []), ("k", [])], [("a", ())])
        self.assertEqual([net.names()], classes(net))
        gates[5] = ("h2", "f", [("x", []), ("h3", [1])])
        net = Net(["x"], gates, [("g0", []), ("h0", []), ("k", [])], [("a", ()), ("b", ())])
        self.assertEqual([["g0", "g1", "g2", "k"], ["h0"], ["h1"], ["h2"], ["h3"]], classes(net))

    def test_a_difference_far_away(self):
        gates = [(f"{row}{n}", "f", [(f"{row}{n + 1}" if n < 3 else "x", [])]) for n in range(4) for row in "ab"]
        outs = [("a0", []), ("b0", [])]
        self.assertEqual([[f"a{n}", f"b{n}"] for n in range(4)], classes(Net(["x", "y"], gates, outs)))
        gates[-1] = ("b3", "f", [("y", [])])
        self.assertEqual([[name] for name, _, _ in gates], classes(Net(["x", "y"], gates, outs)))

    def test_lists_in_the_order_of_the_gates(self):
        gates = [("q", "g", [("x", [])]), ("p", "f", [("x", [])]), ("b", "g", [("x", [0])]), ("a", "f", [("x", [0, 0])])]
        net = Net(["x"], gates, [(name, []) for name in "abpq"], [("c", ())])
        self.assertEqual([["q", "b"], ["p", "a"]], classes(net))
        turned = Net(["x"], gates[::-1], [(name, []) for name in "abpq"], [("c", ())])
        self.assertEqual([["a", "p"], ["b", "q"]], classes(turned))

    def test_many_networks(self):
        for net in many_nets():
            self.assertEqual(classes_by_values(net), classes(net))

    def test_new_lists(self):
        told = check_new(self, classes, net=rings_net(2))
        spoil(classes(rings_net(2)))
        self.assertEqual(told, classes(rings_net(2)))


class TestLeast(unittest.TestCase):

    def test_the_first_gate_of_each_class_stays(self):
        gates = [("o", "h", [("q", [0]), ("s", [])]), ("p", "f", [("x", [])]), ("q", "f", [("x", [])]),
                 ("r", "g", [("q", [])]), ("s", "g", [("p", [])])]
        net = Net(["x"], gates, [("o", []), ("r", [0]), ("q", [])], [("a", ())])
        rows = (["x"], [("o", "h", [("p", [0]), ("r", [])]), ("p", "f", [("x", [])]), ("r", "g", [("p", [])])],
                [("o", []), ("r", [0]), ("p", [])], [("a", ())])
        self.assertEqual(rows, least(net).rows())

    def test_what_the_words_say_for_many_networks(self):
        for net in many_nets():
            early, told = advanced(net), least(net)
            first = {name: names[0] for names in classes(net) for name in names}
            inputs, gates, outs, terms = early.rows()

            def moved(edges):
                return [(first.get(source, source), starts) for source, starts in edges]
            kept = [(name, symbol, moved(edges)) for name, symbol, edges in gates if first[name] == name]
            self.assertEqual(Net(inputs, kept, moved(outs), terms), told)
            self.assertEqual(told, least(told))
            self.assertEqual([[name] for name in told.names()], classes(told))

    def test_each_gate_of_a_doubled_network_goes(self):
        for seed in range(30):
            one, two = random_net(seed, symbols="fg", most=4), doubled_net(seed)
            self.assertEqual(2 * len(one), len(two))
            self.assertLessEqual(len(least(two)), len(least(one)))


class TestCanonical(unittest.TestCase):

    def test_the_order_of_the_first_visit(self):
        gates = [("p", "f", [("x", []), ("x", [])]), ("q", "g", [("s", [0]), ("p", [])]), ("r", "h", [("x", [])]),
                 ("s", "k", [("r", []), ("q", [0]), ("p", [])])]
        outs = [("x", []), ("q", []), ("p", []), ("s", [])]
        told = canonical(Net(["x"], gates, outs, [("a", ())]))
        self.assertEqual([("g0", "g"), ("g1", "k"), ("g2", "h"), ("g3", "f")], [row[:2] for row in told.rows()[1]])
        self.assertEqual([("g1", [0]), ("g3", [])], told.edges("g0"))
        self.assertEqual([("g2", []), ("g0", [0]), ("g3", [])], told.edges("g1"))
        self.assertEqual([("x", []), ("g0", []), ("g3", []), ("g1", [])], told.outs())

    def test_a_gate_is_listed_before_all_that_is_behind_it(self):
        # The second slot of the first gate leads to a gate that the first slot reaches, too, but by a longer way.
        gates = [("d", "f", [("x", [])]), ("c", "g", [("d", [])]), ("b", "h", [("c", [])]),
                 ("a", "k", [("b", []), ("d", []), ("e", [])]), ("e", "m", [("x", [])])]
        told = canonical(Net(["x"], gates, [("a", [])]))
        self.assertEqual(list("khgfm"), [symbol for _, symbol, _ in told.rows()[1]])

    def test_names_leave_out_those_of_inputs(self):
        gates = [(name, name, [("g0" if n == 0 else "pqrs"[n - 1], [])]) for n, name in enumerate("pqrs")]
        for inputs, names in ((["g0"], ["g1", "g2", "g3", "g4"]), (["g3", "g0", "g1"], ["g2", "g4", "g5", "g6"]),
                              (["g00", "g0", "g", "g2"], ["g1", "g3", "g4", "g5"]),
                              (["g5", "g0", "g4", "g6"], ["g1", "g2", "g3", "g7"])):
            told = canonical(Net(inputs, gates, [("s", [])]))
            self.assertEqual((inputs, names), (told.inputs(), told.names()))
        told = canonical(renamed(Net(["g0"], gates, [("s", [])]), {"g0": "x"}))
        self.assertEqual(["g0", "g1", "g2", "g3"], told.names())

    def test_the_old_names_do_not_matter(self):
        gates = [("g1", "f", [("x", []), ("g0", [0])]), ("g0", "g", [("x", []), ("g1", [0])])]
        net = Net(["x"], gates, [("g1", [])], [("a", ())])
        self.assertEqual(canonical(net), canonical(renamed(net, {"g0": "g1", "g1": "g0"})))

    def test_more_than_ten_gates(self):
        lines = ["input x", "input g11"] + [f"gate h{n} f{n} " + (f"h{n - 1}" if n else "x") for n in range(14)]
        told = canonical(net_of("\n".join([*lines, "out h13"])))
        self.assertEqual([f"g{n}" for n in range(15) if n != 11], told.names())

    def test_the_terms_are_in_the_order_of_the_new_gates(self):
        gates = [("p", "f", [("x", []), ("p", [0])]), ("q", "g", [("x", []), ("q", [1])])]
        told = canonical(Net(["x"], gates, [("q", []), ("p", [])], [("a", ()), ("b", ())]))
        self.assertEqual([("b", ()), ("a", ())], told.terms())

    def test_what_the_words_say_for_many_networks(self):
        for net in many_nets():
            small, told = least(net), canonical(net)
            order = []

            def visit(name):
                if name not in order and name in small.names():
                    order.append(name)
                    for source, _ in small.edges(name):
                        visit(source)
            for source, _ in small.outs():
                visit(source)
            free = [f"g{n}" for n in range(20) if f"g{n}" not in net.inputs()]
            names = dict(zip(order, free))
            inputs, _, outs, terms = small.rows()
            again = Net(inputs, [(name, *small[name]) for name in order], outs, terms)
            self.assertEqual(renamed(again, names), told)
            self.assertEqual(told, canonical(told))


class TestAlike(unittest.TestCase):

    def check_answers(self, net, count):
        """Check that all forms of a network have its answers at every turn of a run."""
        forms = [net, advanced(net), least(net), canonical(net)]
        told = answers_of(forms, count)
        meaning, rows = mixing_meaning(net), given_rows(net, count)
        values = [answers(form, meaning, rows) for form in forms]
        for place in range(1, 4):
            self.assertEqual(told[0], told[place])
            self.assertEqual(values[0], values[place])

    def test_the_answers_are_those_of_the_network(self):
        for net in many_nets():
            self.check_answers(net, LONG)

    def test_the_answers_of_two_hundred_turns(self):
        for net in (doubled_example(), rings_net(3), early_ring_net(5), doubled_net(3), random_net(17)):
            self.check_answers(net, 200)

    def test_alike_exactly_if_the_canonical_forms_are_equal(self):
        found = {}
        nets = [random_net(seed, symbols="f", longest=1, most=2, inputs=["x"]) for seed in range(300)]
        nets += [random_net(seed, symbols="f", longest=1, most=3, inputs=["x"]) for seed in range(300)]
        told = answers_of(nets, 40)
        for net, inner in zip(nets, told):
            key = (tuple(net.inputs()), tuple(tuple(row) for row in inner))
            found.setdefault(key, []).append(canonical(net))
        self.assertGreater(len(nets) - len(found), 50)
        self.assertGreater(len(found), 50)
        firsts = []
        for forms in found.values():
            self.assertEqual([forms[0]] * len(forms), forms)
            firsts.append(text_of(forms[0]))
        self.assertEqual(len(firsts), len(set(firsts)))

    def test_no_alike_network_has_fewer_gates(self):
        fewest = {}
        nets = [random_net(seed, symbols="f", longest=1, most=4, inputs=["x"]) for seed in range(400)]
        for net, inner in zip(nets, answers_of(nets, 40)):
            key = (tuple(net.inputs()), tuple(tuple(row) for row in inner))
            fewest.setdefault(key, []).append((len(net), len(least(net))))
        for pairs in fewest.values():
            for _, least_many in pairs:
                self.assertLessEqual(least_many, min(many for many, _ in pairs))

    def test_other_orders_and_names_and_gates_that_stand_twice(self):
        for seed, net in enumerate(many_nets()):
            other = shuffled(net, seed)
            self.assertEqual(canonical(net), canonical(other))
            self.assertEqual(len(least(net)), len(least(other)))

    def test_gates_that_work_some_turns_early(self):
        moved = 0
        for seed, net in enumerate(many_nets()):
            early = hastened(net)
            moved += early != net
            self.assertEqual([advanced(net)] * 2, [advanced(early), advanced(hastened(early))])
            self.assertEqual([canonical(net)] * 2, [canonical(early), canonical(shuffled(early, seed))])
        self.assertGreater(moved, 20)

    def test_one_start_that_differs(self):
        base = doubled_example()
        other = Net(["x"], [("p", "f", [("x", [0])]), ("q", "f", [("x", [])])], [("p", []), ("q", [])], [("b", ())])
        self.assertTrue(canonical(base) != canonical(other))

    def test_results_may_be_passed_on_to_all_functions(self):
        for net in many_nets()[::4]:
            forms = [net, advanced(net), least(net), canonical(net), advanced(advanced(net)), least(advanced(net)),
                     advanced(least(net)), canonical(least(advanced(net))), net_of(text_of(canonical(net)))]
            for form in forms:
                self.assertEqual(canonical(net), canonical(form))
                self.assertEqual(len(classes(net)), len(classes(form)))
                self.assertEqual(advanced(form), advanced(advanced(form)))
                self.assertEqual(set(distances(form)), set(form.names()))

    def test_large_starts_are_compared_promptly(self):
        limit_seconds(self, 20)
        # Two gates of distance 30 that feed themselves three times over: their starts have more than 3 ** 30 symbols.
        gates = [(name, "f", [(name, [0]), (name, [0]), ("x", [0] * 30)]) for name in "pq"]
        gates += [(name, "g", [(source, [0] * 30), (name, [0]), (name, [0])]) for name, source in ("rp", "sq")]
        outs = [("r", [0] * 30), ("s", [0] * 30)]
        net = Net(["x"], gates, outs, [("a", ()), ("b", ())])
        self.assertEqual([["p", "q"], ["r", "s"]], classes(net))
        self.assertEqual(2, len(canonical(net)))
        self.assertEqual(canonical(net), canonical(canonical(net)))
        gates[1] = ("q", "f", [("q", [0]), ("q", [0]), ("x", [1] + [0] * 29)])
        other = Net(["x"], gates, outs, [("a", ()), ("b", ())])
        # The start that differs is only in the innermost places of the large terms.
        self.assertEqual([["p"], ["q"], ["r"], ["s"]], classes(other))
        self.assertTrue(canonical(net) != canonical(other))


if __name__ == "__main__":
    unittest.main()
