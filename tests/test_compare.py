"""[71], [72], [73], [74]: whether networks are alike, where they first differ, and from when on they agree."""

import unittest

from helpers import check_new, check_order, check_raises, limit_seconds, no_nets, small_net, spoil
from kin import chain_net, kin_pairs, ring_net, shuffled, wheel_net, wire
from model import answers_of, many_nets
from toldpast.books import Book
from toldpast.compare import alike, difference, first_unlike, parting, settles
from toldpast.errors import InvalidNet, Mismatch
from toldpast.lags import related
from toldpast.least import advanced, canonical, least
from toldpast.nets import Net, renamed
from toldpast.runs import answers, free_run

PAIRWISE = (alike, first_unlike, difference, settles, parting, related)
LONG = 80


def unlike_turns(one, other, count):
    """The first turns at which answers differ, each with the first such out."""
    told = answers_of([one, other], count)
    return [(turn, [a == b for a, b in zip(*pair)].index(False)) for turn, pair in enumerate(zip(*told))
            if pair[0] != pair[1]]


def parted(one, other, turn, out):
    """Where two answers part, told by books of the terms of free runs."""
    rows, told = free_run(one, turn + 1)
    other_rows, other_told = free_run(other, turn + 1)
    book = Book(rows)
    number = book.carry(Book(other_rows), other_told[turn][out])
    slots = book.differ(told[turn][out], number)
    heads = []
    for place in (told[turn][out], number):
        for slot in slots:
            place = book[place][1][slot]
        name, last = book[place]
        heads.append(f"{name}/{len(last)}" if isinstance(last, tuple) else f"{name}@{last}")
    return (turn, out, slots, *heads)


class TestRefused(unittest.TestCase):

    def test_no_networks(self):
        for call in PAIRWISE:
            for value in no_nets():
                check_raises(self, InvalidNet, {"value": value}, call, value, small_net())
                check_raises(self, InvalidNet, {"value": value}, call, other=value, one=small_net())

    def test_networks_that_do_not_match(self):
        base = Net(["x", "y"], [("g", "f", [("x", []), ("y", [])])], [("g", []), ("x", [])])
        others = [
            Net(["y", "x"], [("g", "f", [("x", []), ("y", [])])], [("g", []), ("x", [])]),
            Net(["x"], [("g", "f", [("x", []), ("x", [])])], [("g", []), ("x", [])]),
            Net(["x", "y", "z"], [("g", "f", [("x", []), ("y", [])])], [("g", []), ("x", [])]),
            Net(["x", "y"], [("g", "f", [("x", []), ("y", [])])], [("g", [])]),
            Net(["x", "y"], [("g", "f", [("x", []), ("y", [])])], [("g", []), ("x", []), ("x", [])]),
            renamed(base, {"y": "z"}), Net([], [], []),
        ]
        for call in PAIRWISE:
            for other in others:
                check_raises(self, Mismatch, {"other": other}, call, base, other)
                check_raises(self, Mismatch, {"other": base}, call, one=other, other=base)

    def test_the_order_of_the_checks(self):
        def no_one(arguments):
            arguments["one"] = value = [1]
            return InvalidNet, {"value": value}

        def no_other(arguments):
            arguments["other"] = value = [2]
            return InvalidNet, {"value": value}

        def mismatch(arguments):
            arguments["other"] = value = Net(["y"], [], [])
            return Mismatch, {"other": value}
        for call in PAIRWISE:
            check_order(self, lambda: {"one": small_net(), "other": small_net()}, [no_one, no_other, mismatch], call)
            value, another = [1], [2]
            check_raises(self, InvalidNet, {"value": value}, call, value, another)

    def test_nothing_that_is_passed_is_changed(self):
        one, other = ring_net("a"), ring_net("b")
        before = one.rows(), other.rows()
        for call in PAIRWISE:
            call(one, other)
            self.assertEqual(before, (one.rows(), other.rows()))


class TestDocument(unittest.TestCase):

    def test_differences(self):
        one, other = ring_net("a"), ring_net("b")
        third = Net(["x"], [("h", "f", [("x", [0]), ("h", [1])])], [("h", [])], [("c", ()), ("a", ())])
        told = [first_unlike(one, other), difference(one, other), difference(one, third)]
        self.assertEqual([(0, 0), (0, 0, [1], "a/0", "b/0"), (0, 0, [0], "x@0", "c/0")], told)

    def test_settles(self):
        three = Net(["x"], [], [("x", [0, 0, 0])], [("a", ())])
        four = Net(["x"], [], [("x", [0, 0, 1])], [("a", ()), ("b", ())])
        self.assertEqual([3, None, 0],
                         [settles(three, four), settles(ring_net("a"), ring_net("b")), settles(three, three)])


class TestAlike(unittest.TestCase):

    def check_alike(self, one, other):
        told = [alike(one, other), first_unlike(one, other), difference(one, other), settles(one, other),
                parting(one, other)]
        self.assertEqual([True, None, None, 0, None], told)
        self.assertIs(True, alike(other=one, one=other))

    def test_forms_of_one_network(self):
        for seed, net in enumerate(many_nets()):
            for other in (net, advanced(net), least(net), canonical(net), shuffled(net, seed)):
                self.check_alike(net, other)

    def test_no_outs(self):
        self.check_alike(Net([], [], []), Net([], [], []))
        self.check_alike(Net(["x"], [], []), Net(["x"], [], []))

    def test_rings_of_different_length_with_equal_starts(self):
        self.check_alike(wheel_net("aaaaaaaa"), wheel_net("aaaaaaa"))
        self.check_alike(wheel_net("abababab"), wheel_net("ab"))

    def test_other_names_of_gates_and_other_orders_of_terms(self):
        one = Net(["x"], [("g", "f", [("x", [0, 1])])], [("g", [])], [("a", ()), ("b", ())])
        other = Net(["x"], [("a", "f", [("x", [1, 0])])], [("a", [])], [("b", ()), ("a", ())])
        self.check_alike(one, other)

    def test_each_kind_of_difference(self):
        base = Net(["x", "y"], [("g", "f", [("x", [0]), ("y", [])])], [("g", [1]), ("y", [])], [("a", ()), ("f", (0,))])
        others = {
            "start": Net(["x", "y"], [("g", "f", [("x", [0]), ("y", [])])], [("g", [0]), ("y", [])], [("a", ())]),
            "delay": Net(["x", "y"], [("g", "f", [("x", [0, 0]), ("y", [])])], [("g", [1]), ("y", [])], base.terms()[::1]),
            "source": Net(["x", "y"], [("g", "f", [("x", [0]), ("x", [])])], [("g", [1]), ("y", [])], base.terms()),
            "symbol": Net(["x", "y"], [("g", "h", [("x", [0]), ("y", [])])], [("g", [1]), ("y", [])], base.terms()),
            "arguments": Net(["x", "y"], [("g", "f", [("x", [0])])], [("g", [1]), ("y", [])], base.terms()),
            "slots": Net(["x", "y"], [("g", "f", [("y", []), ("x", [0])])], [("g", [1]), ("y", [])], base.terms()),
            "outs": Net(["x", "y"], [("g", "f", [("x", [0]), ("y", [])])], [("y", []), ("g", [1])], base.terms()),
        }
        for kind, other in others.items():
            self.assertIs(False, alike(base, other), kind)
            self.assertEqual(unlike_turns(base, other, 9)[0], first_unlike(base, other), kind)
            self.assertEqual(parted(base, other, *first_unlike(base, other)), difference(base, other), kind)

    def test_alike_says_what_canonical_forms_say(self):
        equal = 0
        for one, other in kin_pairs():
            same = canonical(one) == canonical(other)
            equal += same
            self.assertIs(same, alike(one, other))
            self.assertIs(same, alike(other, one))
            self.assertIs(same, first_unlike(one, other) is None)
        self.assertGreater(equal, 150)

    def test_results_may_be_compared(self):
        for one, other in kin_pairs()[::5]:
            told = first_unlike(one, other)
            forms = [(advanced(one), other), (one, least(other)), (canonical(one), advanced(other))]
            self.assertEqual([told] * 3, [first_unlike(*pair) for pair in forms])
            self.assertEqual([settles(one, other)] * 3, [settles(*pair) for pair in forms])
            self.assertEqual([difference(one, other)] * 3, [difference(*pair) for pair in forms])


class TestLongRuns(unittest.TestCase):
    """What is told agrees with the answers of long runs of both networks."""

    def test_the_first_turn_and_out(self):
        for one, other in kin_pairs():
            found = unlike_turns(one, other, LONG)
            self.assertEqual(found[0] if found else None, first_unlike(one, other))

    def test_where_the_answers_part(self):
        many = 0
        for one, other in kin_pairs():
            told = check_new(self, difference, one, other)
            found = first_unlike(one, other)
            if found is None:
                self.assertIsNone(told)
            else:
                many += len(told[2]) > 1
                self.assertEqual(parted(one, other, *found), told)
                self.assertEqual((*told[:3], told[4], told[3]), difference(other, one))
        self.assertGreater(many, 5)

    def test_from_when_on_they_agree(self):
        later = 0
        for one, other in kin_pairs():
            turns = [turn for turn, _ in unlike_turns(one, other, LONG)]
            told = settles(one, other)
            if told is None:
                # Rings and edges are short here, so what differs for ever does so within each ten turns.
                self.assertTrue(all(any(n <= turn < n + 10 for turn in turns) for n in range(20, LONG - 10)))
            else:
                self.assertEqual(max(turns, default=-1) + 1, told)
                later += told > 1
            self.assertEqual(told, settles(other, one))
        self.assertGreater(later, 5)

    def test_answers_of_runs_with_the_free_meaning(self):
        for one, other in kin_pairs()[::3]:
            book, numbers = Book(), []
            for net in (one, other):
                rows, told = free_run(net, 12)
                given = Book(rows)
                numbers.append([[book.carry(given, number) for number in inner] for inner in told])
            found = first_unlike(one, other)
            same = [a == b for a, b in zip(*numbers)]
            if found is None:
                self.assertTrue(all(same))
            elif found[0] < 12:
                self.assertEqual(found[0], same.index(False))


class TestFirst(unittest.TestCase):

    def test_the_first_turn_counts_before_the_first_out(self):
        one = Net(["x"], [], [("x", [0, 0]), ("x", [0, 0]), ("x", [0, 0])], [("a", ())])
        other = Net(["x"], [], [("x", [0, 1]), ("x", [0, 0]), ("x", [1, 0])], [("a", ()), ("b", ())])
        self.assertEqual((0, 2), first_unlike(one, other))
        self.assertEqual((0, 2, [], "a/0", "b/0"), difference(one, other))
        self.assertEqual(2, settles(one, other))

    def test_of_several_outs_the_first_one(self):
        one = Net(["x"], [], [("x", []), ("x", [0, 0]), ("x", [0, 0])], [("a", ())])
        other = Net(["x"], [], [("x", []), ("x", [0, 1]), ("x", [0, 1])], [("a", ()), ("b", ())])
        self.assertEqual((1, 1), first_unlike(one, other))

    def test_a_start_against_a_value(self):
        # The start f(a,b) begins as the value of the gate does, and parts from it at the first slot.
        one = Net(["x"], [("g", "f", [("x", []), ("x", [0])])], [("g", [])], [("b", ())])
        other = Net(["x"], [("g", "f", [("x", []), ("x", [1])])], [("g", [2])], [("a", ()), ("b", ()), ("f", (0, 1))])
        self.assertEqual((0, 0, [0], "x@0", "a/0"), difference(one, other))
        self.assertEqual((0, 0, [0], "a/0", "x@0"), difference(other, one))
        self.assertIsNone(settles(one, other))

    def test_a_sample_against_one_of_another_input(self):
        one, other = wire(""), wire("", "y")
        self.assertEqual([(0, 0, [], "x@0", "y@0"), None], [difference(one, other), settles(one, other)])
        one, other = wire("ab"), wire("ab", "y")
        self.assertEqual([(2, 0, [], "x@0", "y@0"), None], [difference(one, other), settles(one, other)])

    def test_a_sample_against_a_gate(self):
        gate = Net(["x", "y"], [("g", "x", [("x", [])])], [("g", [0])], [("a", ())])
        self.assertEqual((1, 0, [], "x@0", "x/1"), difference(wire("a"), gate))
        self.assertEqual((1, 0, [], "x/1", "x@0"), difference(gate, wire("a")))

    def test_one_name_with_other_numbers_of_arguments(self):
        one = Net(["x"], [("g", "f", [("x", [])])], [("g", [])])
        other = Net(["x"], [("g", "f", [("x", []), ("x", [])])], [("g", [])])
        third = Net(["x"], [("g", "f", [("x", []), ("x", []), ("x", [])])], [("g", [0])], [("f", ())])
        self.assertEqual((0, 0, [], "f/1", "f/2"), difference(one, other))
        self.assertEqual((0, 0, [], "f/2", "f/0"), difference(other, third))
        self.assertEqual((0, 0, [], "f/0", "f/1"), difference(third, one))

    def test_delays_that_differ(self):
        self.assertEqual([(2, 0, [], "x@0", "c/0"), None],
                         [difference(wire("ab"), wire("abc")), settles(wire("ab"), wire("abc"))])
        self.assertEqual((1, 0, [], "b/0", "c/0"), difference(wire("ab"), wire("acb")))
        self.assertEqual((0, 0, [], "x@0", "a/0"), difference(wire(""), wire("abc")))

    def test_a_start_that_is_a_large_term(self):
        terms = [("a", ()), ("b", ()), ("f", (0, 0)), ("f", (0, 1)), ("g", (2, 2, 2)), ("g", (2, 3, 2))]
        one = Net(["x"], [], [("x", [4])], terms)
        other = Net(["x"], [], [("x", [5])], terms)
        self.assertEqual((0, 0, [1, 1], "a/0", "b/0"), difference(one, other))

    def test_the_first_slot_at_which_arguments_differ(self):
        one = Net(["x"], [("g", "f", [("x", []), ("x", [0]), ("x", [0])])], [("g", [])], [("a", ())])
        other = Net(["x"], [("g", "f", [("x", []), ("x", [1]), ("x", [1])])], [("g", [])], [("a", ()), ("b", ())])
        self.assertEqual((0, 0, [1], "a/0", "b/0"), difference(one, other))

    def test_new_lists(self):
        one, other = ring_net("a"), ring_net("b")
        told = check_new(self, difference, one, other)
        spoil(difference(one, other))
        self.assertEqual(told, difference(one, other))


class TestFarAway(unittest.TestCase):
    """Turns far beyond thirty; nothing is written out in full."""

    def setUp(self):
        limit_seconds(self, 60)

    def test_a_start_at_the_far_end_of_a_chain(self):
        plain, last = "a" * 30, "a" * 29 + "b"
        for width in (1, 2, 3):
            one, other = chain_net([plain] * 9, width), chain_net([last] + [plain] * 8, width)
            self.assertEqual((269, 0), first_unlike(one, other))
            self.assertEqual(270, settles(one, other))
            self.assertEqual((269, 0, [0] * 8, "a/0", "b/0"), difference(one, other))

    def test_they_differ_and_agree_and_differ_again(self):
        plain = "a" * 30
        one = chain_net([plain] * 9)
        other = chain_net(["a" * 11 + "b" + "a" * 18] + [plain] * 7 + ["b" + "a" * 29])
        self.assertEqual([(0, 0), 252], [first_unlike(one, other), settles(one, other)])
        found = [turn for turn, _ in unlike_turns(one, other, 400)]
        self.assertEqual([0, 251], found)

    def test_delays_that_differ_at_the_far_end_of_a_chain(self):
        plain = "a" * 30
        one, other = chain_net([plain] * 9), chain_net(["a" * 29] + [plain] * 8)
        self.assertEqual([(269, 0), None], [first_unlike(one, other), settles(one, other)])
        self.assertEqual((269, 0, [0] * 8, "a/0", "x@0"), difference(one, other))

    def test_rings_that_agree_as_long_as_rings_can(self):
        # Two words with periods 8 and 7 may agree for 13 letters, and no longer.
        word = "aabaaabaaabaaa"
        one, other = wheel_net("abaaaaaa"), wheel_net("abaaaaa")
        self.assertEqual([(8 * 30 + 29, 0), None], [first_unlike(one, other), settles(one, other)])
        best = 0
        for number in range(2 ** 7):
            word = "".join("ab"[number >> n & 1] for n in range(7))
            for letter in "ab":
                turn, _ = first_unlike(wheel_net(word + letter), wheel_net(word)) or (0, 0)
                best = max(best, turn)
                spread = [(word + letter) * 7, word * 8]
                if spread[0] != spread[1]:
                    self.assertEqual([a == b for a, b in zip(*spread)].index(False) * 30 + 29, turn)
        self.assertEqual(13 * 30 + 29, best)

    def test_rings_with_two_ways_round(self):
        # Each gate feeds itself three times over, so that terms grow by a factor at each turn.
        def tangle(start):
            gates = [(f"g{n}", "f", [(f"g{n}", [0]), (f"g{n}", [0]), ("x" if n == 0 else f"g{n - 1}", [0] * 30)])
                     for n in range(8)]
            gates[0][2][2] = ("x", [0] * 29 + [start])
            return Net(["x"], gates, [("g7", [0] * 30)], [("a", ()), ("b", ())])
        one, other = tangle(0), tangle(1)
        self.assertTrue(alike(one, tangle(0)))
        self.assertEqual((29 + 30 * 8, 0), first_unlike(one, other))
        self.assertIsNone(settles(one, other))
        self.assertEqual((269, 0, [2] * 8, "a/0", "b/0"), difference(one, other))

    def test_answers_of_the_networks_there(self):
        pairs = [(wheel_net("abaaaaaa"), wheel_net("abaaaaa")), (chain_net(["a" * 30] * 6), chain_net(["a" * 29 + "b"] * 6)),
                 (chain_net(["a" * 30] * 6), chain_net(["b" + "a" * 29] + ["a" * 30] * 5))]
        for one, other in pairs:
            found = unlike_turns(one, other, 500)
            self.assertEqual(found[0], first_unlike(one, other))
            told = settles(one, other)
            if told is not None:
                self.assertEqual(found[-1][0] + 1, told)

    def test_a_late_difference_shows_in_given_values(self):
        one, other = chain_net(["a" * 30] * 6), chain_net(["a" * 29 + "b"] + ["a" * 30] * 5)
        turn, out = first_unlike(one, other)
        self.assertEqual((179, 0), (turn, out))
        meaning = {"a": lambda v: 1, "b": lambda v: 2, "c": lambda v: 3, "f": lambda v: v[0]}
        told = [answers(net, meaning, [[0]] * 200) for net in (one, other)]
        self.assertEqual([179], [n for n in range(200) if told[0][n] != told[1][n]])


if __name__ == "__main__":
    unittest.main()
