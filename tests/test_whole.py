"""[7], [8], [10] over the whole program: arguments by name, tuples for lists, new results, and the guarantees."""

import copy
import importlib
import itertools
import unittest

from helpers import containers, small_meaning, spoil
from kin import chain_net, deep_nets, hastened, kin_pairs, ring_net, shuffled
from model import answers_of, many_nets, random_net
from test_interface import FUNCTIONS, METHODS
from test_lagged import allowed_lags, box, raised, ring_of_two, two_deep
from test_moves import wide_net
from toldpast.books import Book
from toldpast.compare import alike, first_unlike, meaning_of, parting, settles
from toldpast.depths import bar, depths, past
from toldpast.errors import Duplicate, TooMany
from toldpast.joins import beside, looped, series
from toldpast.lags import Lags, deepest, lagged, related
from toldpast.least import advanced, canonical, classes, distances, least
from toldpast.moves import all_lags, moves, plan, ranges, stages
from toldpast.nets import Net, renamed
from toldpast.runs import Machine
from toldpast.session import Session
from toldpast.wishes import meet, shows_none

def some_rows():
    return [("a", ()), ("f", [0, 0])]


def wishes():
    return [("lag", "q", 0, None), ("edge", "q", 0, None, 5)]


def loop_net():
    return Net(["x", "y"], [("g", "f", [("x", []), ("y", [])])], [("g", [])])


def tables():
    return {"f": [((0, 1), 2), ([1], 3)], "a": [((), 1)]}


def calls():
    """A call of each function of the interface: its module, its name, and its arguments by their names."""
    return [
        ("validation", "is_integer", {"value": 3, "low": 1, "high": 4}), ("validation", "is_name", {"value": "x1"}),
        ("validation", "is_list", {"value": (1,)}), ("validation", "is_terms", {"value": [["a", ()], ("f", [0])]}),
        ("validation", "parse_integer", {"text": "12", "low": 12, "high": 13}),
        ("validation", "split_words", {"text": "a,b", "separator": ","}),
        ("books", "same_term", {"book": Book(some_rows()), "number": 1, "other": Book(some_rows()), "other_number": 1}),
        ("nets", "renamed", {"net": two_deep(), "names": {"p": "q", "q": "p"}}),
        ("nettext", "edge_text", {"source": "x", "starts": [1, 2]}), ("nettext", "edge_of", {"word": "x:1,2"}),
        ("nettext", "text_of", {"net": two_deep(), "first": 3, "step": 2}), ("nettext", "net_of", {"text": "input x\nout x"}),
        ("runs", "answers", {"net": ring_net("a"), "meaning": small_meaning(), "rows": [[1], (2,)], "first": 1}),
        ("runs", "turns", {"net": ring_net("a"), "meaning": small_meaning(), "rows": [[1], (2,)]}),
        ("runs", "free_run", {"net": two_deep(), "count": 4}),
        *[("least", name, {"net": two_deep()}) for name in ("distances", "advanced", "classes", "least", "canonical")],
        *[("compare", name, {"one": ring_net("a"), "other": ring_net("b")})
          for name in ("alike", "first_unlike", "difference", "settles", "parting")],
        ("compare", "meaning_of", {"tables": tables()}),
        ("depths", "depths", {"net": two_deep()}), ("depths", "past", {"net": two_deep(), "gate": "q"}),
        ("depths", "bar", {"net": two_deep(), "gate": "q"}),
        ("lags", "lagged", {"net": two_deep(), "lags": {"q": 1}}), ("lags", "deepest", {"net": two_deep()}),
        ("lags", "related", {"one": ring_net("a"), "other": ring_net("b")}),
        ("moves", "move", {"net": two_deep(), "gate": "q", "step": -1}), ("moves", "moves", {"net": two_deep()}),
        ("moves", "stages", {"net": two_deep(), "steps": [("q", 1), ["q", -1]]}),
        ("moves", "plan", {"net": two_deep(), "lags": {"p": 1, "q": 1}, "start": {"p": -1}}),
        ("moves", "ranges", {"net": two_deep()}), ("moves", "all_lags", {"net": two_deep(), "most": 9}),
        ("wishes", "is_wish", {"value": wishes()[0]}), ("wishes", "meet", {"net": two_deep(), "wishes": wishes(), "greatest": True}),
        ("wishes", "bounds", {"net": two_deep(), "wishes": wishes()}),
        ("wishes", "shows_none", {"net": two_deep(), "wishes": [("lag", "q", 2, None)],
                                  "ring": [("q", None, 1, ("depth", "q")), (None, "q", -2, ("wish", 0))]}),
        ("joins", "series", {"one": ring_net("a"), "other": renamed(ring_net("b"), {"g": "h"})}),
        ("joins", "looped", {"net": loop_net(), "out": 0, "entry": "y", "starts": [0, 1], "terms": some_rows()}),
    ]


DEFAULTS = {
    "parse_integer": {"low": 0, "high": 999999}, "split_words": {"separator": " "}, "text_of": {"first": 0, "step": 1},
    "answers": {"first": 0}, "plan": {"start": None}, "all_lags": {"most": 200}, "meet": {"greatest": False},
}


def taken(value):
    """A result in a form that can be compared: generators as lists, functions by what they return."""
    if value.__class__.__name__ == "generator":
        return list(value)
    if isinstance(value, dict) and value and callable(next(iter(value.values()))):
        return {name: [function(items) for items in ([], [0, 1], [1], [5])] for name, function in value.items()}
    return value


def function_of(module, name):
    return getattr(importlib.import_module("toldpast." + module), name)


def other_kind(value, kind):
    """A value with its lists as tuples, or its tuples as lists; dicts keep their keys."""
    if isinstance(value, dict):
        return {key: other_kind(item, kind) for key, item in value.items()}
    if isinstance(value, (list, tuple)):
        return kind(other_kind(item, kind) for item in value)
    return value


class TestCalls(unittest.TestCase):

    def test_each_function_is_called(self):
        named = {name for functions in FUNCTIONS.values() for name in functions}
        self.assertEqual(named - {"beside"}, {name for _, name, _ in calls()})

    def test_by_position_and_by_name_in_any_order(self):
        for module, name, arguments in calls():
            function = function_of(module, name)
            signature = FUNCTIONS[module][name]
            words = list(arguments)
            by_position = words[:words.index(signature.split("*, ")[1].split("=")[0])] if "*" in signature else words
            more = {word: arguments[word] for word in words if word not in by_position}
            expected = taken(function(*[arguments[word] for word in by_position], **more))
            for order in (words, words[::-1], words[1:] + words[:1]):
                self.assertEqual(expected, taken(function(**{word: arguments[word] for word in order})), name)
            if by_position:
                first, *rest = by_position
                self.assertEqual(expected, taken(function(arguments[first], **{word: arguments[word] for word in rest}, **more)))

    def test_what_stands_behind_a_star_must_be_named(self):
        for module, name, arguments in calls():
            if "*" in FUNCTIONS[module][name]:
                with self.assertRaises(TypeError):
                    function_of(module, name)(*arguments.values())

    def test_defaults_may_be_left_out(self):
        for module, name, arguments in calls():
            if name in DEFAULTS:
                function = function_of(module, name)
                needed = {word: value for word, value in arguments.items() if word not in DEFAULTS[name]}
                expected = taken(function(**needed, **DEFAULTS[name]))
                self.assertEqual(expected, taken(function(**needed)), name)
                for word, value in DEFAULTS[name].items():
                    self.assertEqual(expected, taken(function(**needed, **{word: value})), name)
        net = Net(["x", "y"], [("g", "f", [("x", []), ("y", [0])])], [("g", [])], [("a", ())])
        self.assertEqual(looped(net, 0, "y", [], ()), looped(net, 0, "y", []))
        self.assertEqual(Book(), Book(()))
        self.assertEqual(Net([], [], []), Net([], [], [], ()))

    def test_tuples_for_lists_and_lists_for_tuples(self):
        for module, name, arguments in calls():
            if name in ("is_wish", "is_list"):
                continue
            function = function_of(module, name)
            expected = taken(function(**arguments))
            self.assertEqual(expected, taken(function(**other_kind(arguments, tuple))), name)
            if name not in ("meet", "bounds", "shows_none"):
                self.assertEqual(expected, taken(function(**other_kind(arguments, list))), name)

    def test_results_may_be_changed_and_asked_again(self):
        for module, name, arguments in calls():
            function = function_of(module, name)
            results = [taken(function(**arguments)) for _ in range(2)]
            self.assertEqual(results[0], results[1], name)
            found = containers(results)
            self.assertEqual(len(found), len({id(item) for item in found}), name)
            kept = copy.deepcopy(results[1]) if found[1:] else results[1]
            spoil(results)
            self.assertEqual(kept, taken(function(**arguments)), name)

    def test_arguments_are_not_changed_and_may_be_changed_afterwards(self):
        for (module, name, arguments), (_, _, others) in zip(calls(), calls()):
            result = taken(function_of(module, name)(**arguments))
            for word, value in arguments.items():
                if isinstance(value, (list, dict, tuple)) and name != "answers" and name != "turns":
                    self.assertEqual(others[word], value, (name, word))
                elif isinstance(value, Net):
                    self.assertEqual(others[word].rows(), value.rows())
            rows = result.rows() if isinstance(result, Net) else copy.copy(result)
            for value in arguments.values():
                spoil(value)
            self.assertEqual(rows, result.rows() if isinstance(result, Net) else result, name)

    def test_the_order_of_the_keys_does_not_matter(self):
        for module, name, arguments in calls():
            turned = {word: dict(reversed(list(value.items()))) if isinstance(value, dict) else value
                      for word, value in arguments.items()}
            function = function_of(module, name)
            self.assertEqual(taken(function(**arguments)), taken(function(**turned)), name)


class TestObjects(unittest.TestCase):

    def test_classes_and_methods_with_arguments_by_name(self):
        book = Book(rows=some_rows())
        told = [book.constant(symbol="a"), book.apply(numbers=[0, 0], symbol="f"), book.sample(turn=3, name="x"),
                book.parts(number=1), book.size(number=1), book.depth(number=1), book.text(number=1), book.read(text="f(a,a)"),
                book.evaluate(samples=None, meaning={"a": len, "f": sum}, number=1), book.carry(number=1, other=Book(some_rows())),
                book.differ(other=1, one=0)]
        self.assertEqual([0, 1, 2, [0, 1], 3, 2, "f(a,a)", 1, 0, 1, []], told)
        net = Net(terms=some_rows(), outs=[("g", [1])], gates=[("g", "f", [("x", []), ("x", [])])], inputs=["x"])
        told = [net.edges(name="g"), net.symbol(name="g"), net.readers(name="g"), net.delays(slot=0, reader=0),
                net.source(slot=1, reader="g")]
        self.assertEqual([[("x", []), ("x", [])], "f", [(0, 0)], 1, "x"], told)
        machine = Machine(meaning={"a": lambda v: 1, "f": lambda v: v[0] + v[1]}, net=net)
        self.assertEqual([[2], 6, 1], [machine(values=[3]), machine.value_at(name="g"), machine.turn])
        lags = Lags(rows={"g": 1})
        self.assertEqual([True, False], [lags.is_below(other=lags), lags.is_below(other=Lags(rows={}))])
        session = Session(net=net)
        self.assertEqual([[], [[]]], [session.say(line="lag g 0"), session.say_all(lines=["lag g 0"])])

    def test_each_method_of_the_interface_is_known(self):
        for module, found in METHODS.items():
            for name, methods in found.items():
                for method in methods:
                    self.assertIn(method, vars(function_of(module, name)))

    def test_objects_of_other_classes_are_never_equal(self):
        net = two_deep()
        objects = [net, Book(some_rows()), Lags({}), Lags({"g": 1}), Machine(net, meaning_of({"a": [], "b": [], "f": []})), Session(net), {}, []]
        for one, other in itertools.permutations(objects, 2):
            self.assertIs(False, one == other)
            self.assertIs(True, one != other)
        for one in objects:
            self.assertTrue(one == one)


class TestGuarantees(unittest.TestCase):

    def test_alike_exactly_if_the_canonical_forms_are_equal(self):
        for one, other in kin_pairs()[::2]:
            same = canonical(one) == canonical(other)
            self.assertIs(same, alike(one, other))
            self.assertIs(same, settles(one, other) == 0)
            self.assertIs(same, first_unlike(one, other) is None)
            self.assertIs(same, parting(one, other) is None)

    def test_no_alike_network_has_fewer_gates(self):
        for seed, net in enumerate(many_nets()):
            for other in (shuffled(net, seed), hastened(net), advanced(net), deepest(net)):
                self.assertEqual(len(canonical(net)), len(least(other)))
                self.assertGreaterEqual(len(other), len(canonical(net)))
                self.assertEqual(len(classes(net)), len(classes(other)))

    def test_lags_move_exactly_as_far_as_the_starts_allow(self):
        for net in (two_deep(), ring_of_two(), ring_net("a")):
            told = all_lags(net)
            for lags in box(net):
                self.assertIs(Lags(lags) in told, raised(net, lags) is None)

    def test_single_moves_lead_from_each_allowed_row_to_each_other_one(self):
        for net in (two_deep(), ring_of_two()):
            rows = all_lags(net)
            reached, waiting = [rows[0]], [rows[0]]
            for row in waiting:
                for gate, step in moves(lagged(net, row)):
                    further = row + Lags({gate: step})
                    if further not in reached:
                        reached.append(further)
                        waiting.append(further)
            self.assertEqual(len(rows), len(reached))
            self.assertTrue(all(row in rows for row in reached))

    def test_wishes_have_a_solution_or_a_ring(self):
        for net in (two_deep(), ring_of_two()):
            for low, high in itertools.product(range(-4, 5), repeat=2):
                given = [("lag", "p", low, None), ("edge", "q", 0, None, high)]
                told, what = meet(net, given)
                if told == "met":
                    self.assertTrue(alike(net, lagged(net, what)))
                    self.assertTrue(what.is_below(meet(net, given, greatest=True)[1]))
                else:
                    self.assertTrue(shows_none(net, given, what))

    def test_results_may_always_be_passed_on(self):
        for seed, net in enumerate(deep_nets()[::6]):
            forms = [net, advanced(net), deepest(net), least(net), canonical(net)]
            forms += [lagged(net, lags) for lags in allowed_lags(net, seed, 1)]
            names = {name: f"z{place}" for place, name in enumerate(net.names())}
            try:
                forms.append(beside(renamed(net, names)))
            except Duplicate:
                pass
            for form in forms:
                self.assertTrue(alike(net, form))
                for name in form.names():
                    past(form, name), bar(form, name)
                low = Lags({name: -many for name, many in distances(form).items()})
                self.assertEqual(("met", low), meet(form, []))
                steps = plan(form, depths(form), start=low)
                last = [advanced(form), *stages(advanced(form), steps)][-1]
                self.assertEqual(deepest(form), last)
                self.assertEqual("lags", related(form, last)[0])
                session = Session(form)
                session.say_all(["canon"])
                self.assertEqual(canonical(net), session.net())

    def test_joined_five_times_and_then_moved(self):
        net = chain_net(["ab", "c", "b"], 1)
        for n in range(5):
            net = series(net, renamed(Net(["x"], [("g", "f", [("x", [0])])], [("g", [0])], [("a", ())]), {"g": f"h{n}"}))
        self.assertTrue(alike(net, deepest(advanced(net))))
        self.assertEqual({name: low for name, (low, _) in ranges(net).items()},
                         meet(net, [])[1].rows())
        one, two = answers_of([net, least(net)], 60)
        self.assertEqual(one, two)

    def test_too_many_rows_are_counted_alike(self):
        net = wide_net(2, 3)
        many = len(all_lags(net, most=2000))
        for most in (many - 1, many, many + 1):
            if most < many:
                with self.assertRaises(TooMany):
                    all_lags(net, most=most)
            else:
                self.assertEqual(many, len(all_lags(net, most=most)))

    def test_random_networks_with_other_seeds(self):
        for seed in range(5000, 5060):
            net = random_net(seed)
            self.assertTrue(alike(net, deepest(advanced(net))))
            self.assertEqual(deepest(net), deepest(advanced(net)))


if __name__ == "__main__":
    unittest.main()
