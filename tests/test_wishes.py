"""[111], [112], [113], [114]: wishes for lags and delays, the lags that meet them, and rings of bounds."""

import copy
import itertools
import random
import unittest

from helpers import HUGE, any_values, check_new, check_order, check_raises, limit_seconds, no_lists, no_nets, small_net
from helpers import spoil
from kin import chain_net, deep_nets
from test_lagged import ring_of_two, two_deep
from toldpast.depths import depths
from toldpast.errors import InvalidNet, InvalidPart, InvalidWish, TooMany, UnknownEdge, UnknownGate
from toldpast.lags import Lags, lagged
from toldpast.least import distances
from toldpast.moves import all_lags
from toldpast.nets import Net
from toldpast.wishes import bounds, is_wish, meet, shows_none

WISHES = [
    ("lag", "p", 0, 1), ("lag", "p", None, None), ("lag", "p", None, -HUGE), ("lag", "p", HUGE, None), ("lag", "p", 3, 1),
    ("edge", "p", 0, 0, 2), ("edge", 0, 0, None, 1), ("edge", "p", 0, None, None), ("edge", "p", 0, -HUGE, HUGE),
    ("apart", "p", "q", 1), ("apart", "p", "p", -HUGE), ("apart", "q", "p", 0),
]


def kept(lags, name):
    """The lag of a gate; None and what is no gate have the lag 0."""
    return 0 if name is None else lags[name]


def satisfies(net, lags, wishes):
    """Whether a row of lags satisfies all wishes, by the words of [111]."""
    for wish in wishes:
        if wish[0] == "apart":
            value, low, high = lags[wish[1]] - lags[wish[2]], None, wish[3]
        elif wish[0] == "lag":
            value, low, high = lags[wish[1]], wish[2], wish[3]
        else:
            value, low, high = lagged(net, lags).delays(wish[1], wish[2]), wish[3], wish[4]
        if (low is not None and value < low) or (high is not None and value > high):
            return False
    return True


def drawn_wishes(net, seed):
    """Some wishes that may or may not be met together."""
    chance = random.Random(seed)
    edges = [(name, slot) for name in net.names() for slot in range(len(net.edges(name)))]
    edges += [(number, 0) for number in range(len(net.outs()))]
    found = []
    for _ in range(chance.randrange(5)):
        low, high = [chance.choice([None, chance.randrange(-3, 4)]) for _ in range(2)]
        kind = chance.choice(["lag", "edge", "apart"])
        if kind == "edge":
            found.append((kind, *chance.choice(edges), low, high))
        elif kind == "lag" and len(net):
            found.append((kind, chance.choice(net.names()), low, high))
        elif len(net):
            found.append(("apart", chance.choice(net.names()), chance.choice(net.names()), chance.randrange(-3, 4)))
    return found


def small_nets():
    """Networks that have few rows of lags."""
    found = []
    for net in deep_nets():
        if len(net) > 1 and max(depths(net).values()) + max(distances(net).values()) < 7:
            try:
                all_lags(net)
                found.append(net)
            except TooMany:
                pass
    return [two_deep(), ring_of_two(), *found[::3]]


def plain_bounds(net, wishes):
    """The bounds by the words of [113]."""
    def gate(name):
        return name if name in net.names() else None
    found = []
    for name in net.names():
        for slot, (source, starts) in enumerate(net.edges(name)):
            found.append((gate(source), name, len(starts), ("edge", name, slot)))
    for number, (source, starts) in enumerate(net.outs()):
        found.append((gate(source), None, len(starts), ("edge", number, 0)))
    for name, depth in depths(net).items():
        found.append((name, None, depth, ("depth", name)))
    for index, wish in enumerate(wishes):
        reason = ("wish", index)
        if wish[0] == "apart":
            found.append((*wish[1:], reason))
            continue
        if wish[0] == "lag":
            one, other, many, low, high = None, wish[1], 0, wish[2], wish[3]
        else:
            one, other = gate(net.source(*wish[1:3])), gate(wish[1])
            many, low, high = net.delays(*wish[1:3]), wish[3], wish[4]
        found += [] if low is None else [(one, other, many - low, reason)]
        found += [] if high is None else [(other, one, high - many, reason)]
    return found


class TestIsWish(unittest.TestCase):

    def test_wishes(self):
        for wish in WISHES:
            self.assertIs(True, is_wish(wish))
            self.assertIs(True, is_wish(value=wish))

    def test_names_and_slots_may_be_anything(self):
        for value in any_values():
            for wish in (("lag", value, 1, 2), ("edge", value, 0, 1, 2), ("edge", "p", value, None, 2), ("apart", value, "p", 1),
                         ("apart", "p", value, 1), ("apart", value, value, 1)):
                self.assertIs(True, is_wish(wish))

    def test_low_high_and_most(self):
        for value in any_values():
            whole = value.__class__ is int
            for wish in (("lag", "p", value, 2), ("lag", "p", 1, value), ("edge", "p", 0, value, 2), ("edge", "p", 0, 1, value)):
                self.assertIs(whole or value is None, is_wish(wish), wish)
            self.assertIs(whole, is_wish(("apart", "p", "q", value)))

    def test_no_lists_and_no_other_lengths(self):
        for wish in WISHES:
            wrong = [list(wish), wish[:-1], (*wish, 1), (*wish, None), wish[1:], (wish,), [wish], ("Lag", *wish[1:])]
            for value in wrong:
                self.assertIs(False, is_wish(value), value)
        for value in [("lag", "p", 0, 1, 2), ("edge", "p", 0, 1), ("apart", "p", "q", 1, 1), ("depth", "p", 0, 1), (), ("lag",)]:
            self.assertIs(False, is_wish(value), value)

    def test_any_value(self):
        for value in any_values():
            self.assertIs(False, is_wish(value))
            self.assertIs(False, is_wish((value, "p", 0, 1)))
            self.assertIs(False, is_wish((value, "p", 0, 0, 1)))


class TestBounds(unittest.TestCase):

    def test_the_order(self):
        net = Net(["x", "y"], [("q", "f", [("p", [0]), ("x", [])]), ("p", "g", [("y", [0, 0])])],
                  [("x", [0]), ("q", []), ("p", [0, 0])], [("a", ())])
        wishes = [("lag", "q", -1, 2), ("edge", "q", 0, 3, 4), ("apart", "p", "q", 5), ("edge", 0, 0, 0, 1),
                  ("edge", 1, 0, 0, 7), ("edge", "p", 0, None, 9), ("lag", "p", None, None), ("apart", "q", "q", -1)]
        told = bounds(net, wishes)
        self.assertEqual([
            ("p", "q", 1, ("edge", "q", 0)), (None, "q", 0, ("edge", "q", 1)), (None, "p", 2, ("edge", "p", 0)),
            (None, None, 1, ("edge", 0, 0)), ("q", None, 0, ("edge", 1, 0)), ("p", None, 2, ("edge", 2, 0)),
            ("q", None, 0, ("depth", "q")), ("p", None, 0, ("depth", "p")),
            (None, "q", 1, ("wish", 0)), ("q", None, 2, ("wish", 0)),
            ("p", "q", -2, ("wish", 1)), ("q", "p", 3, ("wish", 1)), ("p", "q", 5, ("wish", 2)),
            (None, None, 1, ("wish", 3)), (None, None, 0, ("wish", 3)),
            ("q", None, 0, ("wish", 4)), (None, "q", 7, ("wish", 4)), ("p", None, 7, ("wish", 5)), ("q", "q", -1, ("wish", 7)),
        ], told)

    def test_one_gate_that_reads_itself(self):
        net = Net(["x"], [("g", "f", [("x", []), ("g", [0, 0])])], [("g", [])], [("a", ())])
        self.assertEqual([(None, "g", 0, ("edge", "g", 0)), ("g", "g", 2, ("edge", "g", 1)), ("g", None, 0, ("edge", 0, 0)),
                          ("g", None, 0, ("depth", "g"))], bounds(net, []))

    def test_bounds_that_occur_twice(self):
        told = bounds(two_deep(), [("edge", 0, 0, 0, None), ("edge", 0, 0, 0, None)])
        self.assertEqual([("q", None, 1, ("wish", 0)), ("q", None, 1, ("wish", 1))], told[-2:])
        # The two bounds of one wish may be equal, on an edge from a gate to itself, or from an input to an out.
        net = Net(["x"], [("g", "f", [("x", []), ("g", [0])])], [("g", []), ("x", [0])], [("a", ())])
        self.assertEqual([("g", "g", 1, ("wish", 0))] * 2, bounds(net, [("edge", "g", 1, 0, 2)])[-2:])
        self.assertEqual([(None, None, 1, ("wish", 0))] * 2, bounds(net, [("edge", 1, 0, 0, 2)])[-2:])

    def test_many_networks_by_the_words(self):
        for seed, net in enumerate(deep_nets()):
            wishes = drawn_wishes(net, seed)
            self.assertEqual(plain_bounds(net, wishes), bounds(net, wishes))
            self.assertEqual(plain_bounds(net, wishes), bounds(wishes=tuple(wishes), net=net))

    def test_a_row_is_allowed_and_satisfies_exactly_if_all_bounds_hold(self):
        for seed, net in enumerate(small_nets()):
            rows = all_lags(net)
            wishes = drawn_wishes(net, seed)
            told = bounds(net, wishes)
            ranges = [range(-distances(net)[name] - 1, depths(net)[name] + 2) for name in net.names()]
            for lags in itertools.islice(itertools.product(*ranges), 200):
                lags = Lags(dict(zip(net.names(), lags)))
                hold = all(kept(lags, one) - kept(lags, other) <= most for one, other, most, _ in told)
                self.assertIs(lags in rows and satisfies(net, lags, wishes), hold)

    def test_no_gates(self):
        self.assertEqual([], bounds(Net([], [], []), []))
        self.assertEqual([(None, None, 1, ("edge", 0, 0))], bounds(Net(["x"], [], [("x", [0])], [("a", ())]), ()))

    def test_integers_of_thirty_digits(self):
        told = bounds(two_deep(), [("lag", "p", -HUGE, HUGE), ("edge", "q", 0, HUGE, -HUGE), ("apart", "p", "q", HUGE)])
        self.assertEqual([HUGE, HUGE, 1 - HUGE, -HUGE - 1, HUGE], [bound[2] for bound in told[-5:]])

    def test_new_lists(self):
        net, wishes = two_deep(), [("lag", "p", 0, 1)]
        told = check_new(self, bounds, net, wishes)
        bounds(net, wishes).clear()
        self.assertEqual(told, bounds(net, wishes))
        self.assertEqual([("lag", "p", 0, 1)], wishes)
        for bound in told:
            self.assertEqual((tuple, tuple), (bound.__class__, bound[3].__class__))


class TestMeet(unittest.TestCase):

    def check_ring(self, net, wishes, ring):
        """Check by the words of [114] that a told ring is one."""
        told = plain_bounds(net, wishes)
        self.assertGreater(len(ring), 0)
        for bound, following in zip(ring, ring[1:] + ring[:1]):
            self.assertIn(bound, told)
            self.assertIs(tuple, bound.__class__)
            self.assertEqual(bound[1], following[0])
        self.assertEqual(len(ring), len({bound[0] for bound in ring}))
        self.assertLess(sum(bound[2] for bound in ring), 0)
        self.assertIs(True, shows_none(net, wishes, ring))
        self.assertIs(True, shows_none(net, wishes, tuple(ring)))

    def test_document(self):
        net = two_deep()
        wishes = [("edge", "q", 0, 2, None)]
        self.assertEqual([{"p": -1}, {"q": 1}], [meet(net, wishes)[1].rows(), meet(net, wishes, greatest=True)[1].rows()])
        told = meet(net, [("edge", "q", 0, 2, None), ("lag", "q", None, -1), ("lag", "p", -1, None)])
        ring = [("q", None, 1, ("depth", "q")), (None, "q", -2, ("wish", 0))]
        self.assertEqual(["none", True], [told[0], shows_none(net, [("lag", "q", 2, None)], ring)])
        self.check_ring(net, [("edge", "q", 0, 2, None), ("lag", "q", None, -1), ("lag", "p", -1, None)], told[1])

    def test_against_all_rows(self):
        counts = {"met": 0, "none": 0}
        for seed, net in enumerate(small_nets()):
            rows = all_lags(net)
            for more in range(4):
                wishes = drawn_wishes(net, seed + 1000 * more)
                fitting = [row for row in rows if satisfies(net, row, wishes)]
                for greatest in (False, True):
                    told, what = meet(net, wishes, greatest=greatest)
                    counts[told] += 1
                    if fitting:
                        choose = max if greatest else min
                        best = {name: choose(row[name] for row in fitting) for name in net.names()}
                        self.assertEqual(("met", Lags(best)), (told, what))
                        self.assertIn(what, fitting)
                    else:
                        self.assertEqual("none", told)
                        self.check_ring(net, wishes, what)
        self.assertGreater(min(counts.values()), 40)

    def test_no_wishes(self):
        for net in deep_nets()[::3]:
            self.assertEqual(("met", Lags({name: -many for name, many in distances(net).items()})), meet(net, []))
            self.assertEqual(("met", Lags(depths(net))), meet(greatest=True, wishes=(), net=net))

    def test_no_gates(self):
        net = Net(["x"], [], [("x", [0])], [("a", ())])
        self.assertEqual(("met", Lags({})), meet(net, []))
        self.assertEqual(("met", Lags({})), meet(net, [("edge", 0, 0, 1, 1)], greatest=True))
        for wishes in ([("edge", 0, 0, 2, None)], [("edge", 0, 0, None, 0)], [("edge", 0, 0, 1, 1), ("edge", 0, 0, HUGE, None)]):
            told, ring = meet(net, wishes)
            self.assertEqual(("none", 1), (told, len(ring)))
            self.check_ring(net, wishes, ring)

    def test_low_greater_than_high(self):
        net = two_deep()
        for wishes in ([("lag", "p", 1, 0)], [("edge", "q", 0, 2, 1)], [("lag", "p", HUGE, -HUGE)]):
            told, ring = meet(net, wishes)
            self.assertEqual("none", told)
            self.check_ring(net, wishes, ring)

    def test_apart_from_itself(self):
        net = two_deep()
        told, ring = meet(net, [("apart", "p", "p", -1)])
        self.assertEqual(("none", [("p", "p", -1, ("wish", 0))]), (told, ring))
        self.assertEqual("met", meet(net, [("apart", "p", "p", 0)])[0])

    def test_integers_of_thirty_digits(self):
        limit_seconds(self, 10)
        net = chain_net(["ab" * 15] * 9, 1)
        wishes = [("lag", "g0", -HUGE, HUGE), ("edge", "g3", 0, -HUGE, HUGE), ("apart", "g1", "g2", HUGE)]
        self.assertEqual(meet(net, []), meet(net, wishes))
        for wish in (("lag", "g0", HUGE, None), ("lag", "g0", None, -HUGE), ("edge", "g3", 0, HUGE, None),
                     ("apart", "g1", "g2", -HUGE), ("edge", 0, 0, None, -HUGE)):
            told, ring = meet(net, [*wishes, wish])
            self.assertEqual("none", told)
            self.check_ring(net, [*wishes, wish], ring)

    def test_forty_wishes(self):
        net = ring_of_two()
        wishes = [("edge", "q", 0, 2, None), ("edge", "p", 1, 1, None), ("lag", "p", -1, None), ("apart", "q", "p", 0)] * 10
        fitting = [row for row in all_lags(net) if satisfies(net, row, wishes)]
        self.assertEqual(("met", fitting[0]), meet(net, wishes))
        self.check_ring(net, wishes + [("apart", "p", "q", -1)], meet(net, wishes + [("apart", "p", "q", -1)])[1])

    def test_new_lists(self):
        net, wishes = two_deep(), [("lag", "q", 2, None)]
        told = check_new(self, meet, net, wishes)
        spoil(meet(net, wishes))
        self.assertEqual(told, meet(net, wishes))
        self.assertEqual(check_new(self, meet, net, []), meet(net, []))


class TestShowsNone(unittest.TestCase):

    def setUp(self):
        self.net = two_deep()
        self.wishes = [("lag", "q", 2, None), ("lag", "q", 2, None), ("apart", "p", "p", -1), ("edge", 0, 0, 0, 0)]
        self.ring = [("q", None, 1, ("depth", "q")), (None, "q", -2, ("wish", 0))]

    def shows(self, ring):
        told = shows_none(self.net, self.wishes, ring)
        self.assertIn(told, (True, False))
        self.assertIs(told, shows_none(ring=ring, net=self.net, wishes=self.wishes))
        return told

    def test_rings(self):
        for ring in (self.ring, self.ring[::-1], tuple(self.ring), [("p", "p", -1, ("wish", 2))],
                     [("q", None, 1, ("edge", 0, 0)), (None, "q", -2, ("wish", 1))]):
            self.assertTrue(self.shows(ring))

    def test_any_value(self):
        for value in any_values():
            self.assertFalse(self.shows(value))
            self.assertFalse(self.shows([value]))
            self.assertFalse(self.shows([self.ring[0], value]))
            self.assertFalse(self.shows([*self.ring, value]))

    def test_bounds_and_reasons_must_be_tuples(self):
        one, other = self.ring
        self.assertFalse(self.shows([list(one), other]))
        self.assertFalse(self.shows([(*one[:3], list(one[3])), other]))
        self.assertFalse(self.shows([one, (*other[:3], list(other[3]))]))
        self.assertFalse(self.shows({0: one, 1: other}))

    def test_true_and_false_are_no_integers(self):
        one, other = self.ring
        self.assertFalse(self.shows([("q", None, True, ("depth", "q")), other]))
        self.assertFalse(self.shows([one, (None, "q", -2, ("wish", False))]))
        self.assertFalse(self.shows([("q", None, 1, ("edge", False, 0)), other]))
        self.assertFalse(self.shows([("q", None, 1, ("edge", 0, False)), other]))
        self.assertFalse(self.shows([one, (None, "q", -2, ("wish", True))]))

    def test_bounds_that_are_not_in_the_list(self):
        one, other = self.ring
        for bound in (("q", None, 0, ("depth", "q")), ("q", None, 2, ("depth", "q")), ("q", None, 1, ("depth", "p")),
                      ("p", None, 1, ("depth", "q")), ("q", "q", 1, ("depth", "q")), ("q", None, 1, ("edge", 1, 0)),
                      ("q", None, 1), ("q", None, 1, ("depth", "q"), 0), ("q", None, 1, ("depth", "q", 0)),
                      ("q", None, 1, "depth"), ("q", None, None, ("depth", "q"))):
            self.assertFalse(self.shows([bound, other]), bound)
        for bound in ((None, "q", -2, ("wish", 4)), (None, "q", -2, ("wish", -4)), (None, "q", -3, ("wish", 0)), (None, "q", -2, None)):
            self.assertFalse(self.shows([one, bound]), bound)

    def test_no_ring(self):
        one, other = self.ring
        apart = ("p", "p", -1, ("wish", 2))
        self.assertFalse(self.shows([]))
        self.assertFalse(self.shows(()))
        self.assertFalse(self.shows([one]))
        self.assertFalse(self.shows([other]))
        self.assertFalse(self.shows([one, other, one, other]))
        self.assertFalse(self.shows([apart, apart]))
        self.assertFalse(self.shows([one, other, apart]))
        self.assertFalse(self.shows([one, apart]))
        self.assertFalse(self.shows([one, one]))

    def test_a_sum_of_zero(self):
        for low, shown in ((0, False), (1, False), (2, True), (3, True)):
            wishes = [("lag", "q", low, None)]
            ring = [("q", None, 1, ("depth", "q")), (None, "q", -low, ("wish", 0))]
            self.assertIs(shown, shows_none(self.net, wishes, ring))

    def test_rings_of_the_network_alone(self):
        ring = [("p", "q", 1, ("edge", "q", 0)), ("q", None, 1, ("edge", 0, 0)), (None, "p", 1, ("edge", "p", 0))]
        self.assertFalse(self.shows(ring))
        self.assertIn(ring[0], bounds(self.net, []))

    def test_any_ring_of_the_list(self):
        # Of three bounds at most, each order is tried, against the words of [114].
        net, wishes = ring_of_two(), [("lag", "p", 3, None), ("edge", "q", 0, None, 0), ("apart", "q", "p", -1), ("lag", "q", 1, 0)]
        told = bounds(net, wishes)
        shown = 0
        for many in (1, 2, 3):
            for ring in itertools.permutations(told, many):
                closed = all(bound[1] == following[0] for bound, following in zip(ring, ring[1:] + ring[:1]))
                different = len({bound[0] for bound in ring}) == many
                expected = closed and different and sum(bound[2] for bound in ring) < 0
                if many < 3 or closed:
                    self.assertIs(expected, shows_none(net, wishes, list(ring)))
                    shown += expected
        self.assertGreater(shown, 10)


class TestRefused(unittest.TestCase):

    def each(self, error, fields, net, wishes):
        """Check that all three functions refuse the same arguments."""
        check_raises(self, error, fields, bounds, net, wishes)
        check_raises(self, error, fields, meet, net, wishes)
        check_raises(self, error, fields, meet, net, wishes, greatest=None)
        check_raises(self, error, fields, shows_none, net, wishes, None)
        check_raises(self, error, fields, shows_none, ring=[1], wishes=wishes, net=net)

    def test_no_network(self):
        for value in no_nets():
            self.each(InvalidNet, {"value": value}, value, [])

    def test_no_list(self):
        for value in no_lists():
            self.each(InvalidPart, {"value": value}, two_deep(), value)

    def test_no_wishes(self):
        wrong = [value for value in any_values()] + [["lag", "p", 0, 1], ("lag", "p", True, 1), ("apart", "p", "q", None)]
        for value in wrong:
            self.each(InvalidWish, {"value": value}, two_deep(), [("lag", "p", 0, 1), value, ("lag", "x", 0, 1)])

    def test_unknown_gates(self):
        for value in any_values() + ["x", "f", "nobody", 0]:
            self.each(UnknownGate, {"name": value}, two_deep(), [("lag", value, 0, 1)])
            self.each(UnknownGate, {"name": value}, two_deep(), [("apart", value, "p", 1)])
            self.each(UnknownGate, {"name": value}, two_deep(), [("apart", "p", value, 1)])
            other = ["other"]
            self.each(UnknownGate, {"name": value}, two_deep(), [("apart", value, other, 1)])

    def test_unknown_edges(self):
        net = two_deep()
        for reader, slot in (("p", 1), ("p", -1), ("p", True), ("p", False), ("p", None), (0, 1), (0, True), (0, False), (1, 0),
                             (-1, 0), (True, 0), (False, 0), ("x", 0), ("nobody", 0), (None, 0), ("p", "0"), (HUGE, HUGE)):
            self.each(UnknownEdge, {"reader": reader, "slot": slot}, net, [("edge", reader, slot, 0, None)])
        for value in any_values():
            if value.__class__ is not int or value != 0:
                self.each(UnknownEdge, {"reader": value, "slot": 0}, net, [("edge", value, 0, None, None)])
                self.each(UnknownEdge, {"reader": "p", "slot": value}, net, [("edge", "p", value, None, None)])

    def test_greatest(self):
        for value in any_values() + [0, 1, None]:
            if value is not True and value is not False:
                check_raises(self, InvalidPart, {"value": value}, meet, two_deep(), [], greatest=value)
                check_raises(self, InvalidPart, {"value": value}, meet, two_deep(), [("lag", "q", 2, None)], greatest=value)

    def test_the_order_of_the_checks(self):
        def no_net(arguments):
            arguments["net"] = value = [1]
            return InvalidNet, {"value": value}

        def no_list(arguments):
            arguments["wishes"] = value = {"lag": 1}
            return InvalidPart, {"value": value}

        def no_wish(arguments):
            value = ["lag", "p", 0, 1]
            arguments["wishes"] = [value, ("lag", "nobody", 0, 1)]
            return InvalidWish, {"value": value}

        def no_gate(arguments):
            arguments["wishes"] = [("lag", "nobody", 0, 1), ["lag"]]
            return UnknownGate, {"name": "nobody"}

        def no_edge(arguments):
            arguments["wishes"] = [("edge", "p", 7, 0, 1), ("lag", "nobody", 0, 1), None]
            return UnknownEdge, {"reader": "p", "slot": 7}

        def no_choice(arguments):
            arguments["greatest"] = value = [1]
            return InvalidPart, {"value": value}
        faults = [no_net, no_list, no_wish, no_gate, no_edge, no_choice]
        check_order(self, lambda: {"net": two_deep(), "wishes": [], "greatest": True}, faults, meet)
        check_order(self, lambda: {"net": two_deep(), "wishes": []}, faults[:5], bounds)
        check_order(self, lambda: {"net": two_deep(), "wishes": [], "ring": None}, faults[:5], shows_none)

    def test_nothing_that_is_passed_is_changed(self):
        net, wishes = two_deep(), [("lag", "q", 2, None), ("edge", "q", 0, None, 1)]
        ring = meet(net, wishes)[1]
        before = copy.deepcopy((net.rows(), wishes, ring))
        meet(net, wishes), bounds(net, wishes), shows_none(net, wishes, ring)
        self.assertEqual(before, (net.rows(), wishes, ring))
        self.assertEqual(("met", Lags({})), meet(small_net(), []))


if __name__ == "__main__":
    unittest.main()
