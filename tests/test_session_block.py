"""[134], [135], [136]: questions, what is taken back and performed again, and blocks of commands."""

import random
import unittest

from helpers import any_values, check_new, check_raises, no_lists, spoil
from kin import chain_net, deep_nets
from model import many_nets
from test_lagged import two_deep
from test_session import ASKING, CHANGING, base_net
from toldpast.books import Book
from toldpast.compare import alike, first_unlike, settles
from toldpast.depths import past
from toldpast.errors import InvalidCommand, InvalidPart, MissingError, NetError, NothingToUndo, Ring, StateError, UnknownGate
from toldpast.least import advanced
from toldpast.moves import ranges
from toldpast.nets import Net, renamed
from toldpast.nettext import net_of, text_of
from toldpast.session import Session

REFUSALS = (NetError, MissingError, StateError)


def small():
    return Net(["x"], [("g", "f", [("x", []), ("g", [0])])], [("g", [])], [("a", ())])


def drawn_line(chance, net):
    """A line that may be a command for a network, and is often refused."""
    names = net.inputs() + net.names() + ["h", "z1", "nobody"]
    reader = chance.choice(net.names() + [str(n) for n in range(len(net.outs()) + 1)] + ["nobody"])
    slot, index = chance.choice("000112"), chance.choice("0001123")
    term = chance.choice(["a", "b", "f(a)", "f(a,b)", "g(f(a))", "x@0", "f("])
    name, new = chance.choice(names), chance.choice(names)
    forms = [f"lag {name} {chance.randrange(-2, 3)}", "advance", "deepen", "least", "canon", f"rename {name} {new}",
             f"start {reader} {slot} {index} {term}", f"delay {reader} {slot} {index} {term}", f"drop {reader} {slot} {index}",
             f"source {reader} {slot} {name}", f"insert {reader} {slot} {new} {chance.choice('fgk')}", f"bypass {name}",
             "show", "alike", "settles", f"range {name}", f"past {name}", "count", "changes", "nonsense", "lag  g 0"]
    weights = [4, 1, 1, 1, 1, 2, 4, 5, 4, 4, 3, 3] + [1] * 9
    return chance.choices(forms, weights)[0]


class Ledger:
    """A second bookkeeping of done, undo and redo: the blocks of lines in effect, and those that were taken back."""

    def __init__(self, net):
        self.begin = net
        self.blocks, self.back = [], []

    def replayed(self):
        """The network after all lines in effect, told one by one to a new session."""
        session = Session(self.begin)
        for line in self.lines():
            session.say(line)
        return session.net()

    def lines(self):
        return [line for block in self.blocks for line in block]

    def changed(self, block):
        if block:
            self.blocks.append(block)
            self.back = []

    def undo(self):
        if self.blocks:
            self.back.append(self.blocks.pop())

    def redo(self):
        if self.back:
            self.blocks.append(self.back.pop())


def is_change(line):
    return line.split(" ")[0] in [word.split(" ")[0] for word in CHANGING]


class TestDocument(unittest.TestCase):

    def test_the_example(self):
        session = Session(small())
        told = [session.say("delay 0 0 0 f(b,a)"), session.say("range g"), session.say("alike"), session.say("count")]
        self.assertEqual([[], ["0 0"], ["unlike 0 0"], ["1 2 3"]], told)
        told = [session.say("undo"), session.say_all(["insert g 0 h k", "bypass h"]), session.net() == small(), session.done()]
        self.assertEqual([[], [[], []], True, ["insert g 0 h k", "bypass h"]], told)
        with self.assertRaises(Ring) as caught:
            session.say_all(["advance", "drop g 1 0"])
        self.assertEqual(["g"], caught.exception.gates)
        self.assertEqual([["insert g 0 h k", "bypass h"], 2, small()], [session.done(), len(session), session.net()])


class TestQuestions(unittest.TestCase):

    def test_show(self):
        self.assertEqual(["input x", "term 0 a", "gate g f x g:0", "out g"], Session(small()).say("show"))
        self.assertEqual([], Session(Net([], [], [])).say("show"))
        for net in deep_nets()[::3]:
            self.assertEqual(net, net_of("\n".join(Session(net).say("show"))))
            self.assertEqual(text_of(net), "\n".join(Session(net).say("show")))

    def test_alike(self):
        session = Session(small())
        self.assertEqual([["alike"], ["0"]], [session.say("alike"), session.say("settles")])
        session.say("start g 1 0 b")
        self.assertEqual([["unlike 0 0"], ["never"]], [session.say("alike"), session.say("settles")])
        session = Session(Net(["x"], [], [("x", []), ("x", [0, 0, 0])], [("a", ())]))
        session.say("start 1 0 1 b")
        self.assertEqual([["unlike 1 1"], ["2"]], [session.say("alike"), session.say("settles")])
        session.say("rename x y")
        self.assertEqual([["other"], ["other"]], [session.say("alike"), session.say("settles")])
        session.say("rename y x")
        self.assertEqual([["unlike 1 1"], ["2"]], [session.say("alike"), session.say("settles")])

    def test_alike_compares_the_first_network_with_the_one_now(self):
        for seed, net in enumerate(many_nets()[::2]):
            chance = random.Random(seed)
            session = Session(net)
            for _ in range(6):
                line = drawn_line(chance, session.net())
                try:
                    session.say(line)
                except REFUSALS:
                    pass
            now = session.net()
            if now.inputs() == net.inputs():
                found, turn = first_unlike(net, now), settles(net, now)
                self.assertEqual(["alike"] if found is None else [f"unlike {found[0]} {found[1]}"], session.say("alike"))
                self.assertEqual(["never" if turn is None else str(turn)], session.say("settles"))
            else:
                self.assertEqual([["other"]] * 2, [session.say("alike"), session.say("settles")])

    def test_inputs_in_another_order_are_other_inputs(self):
        session = Session(Net(["x", "y"], [], [("x", [])]))
        for line in ("rename x z", "rename y x", "rename z y"):
            session.say(line)
        self.assertEqual([["y", "x"], ["other"], ["other"]], [session.net().inputs(), session.say("alike"), session.say("settles")])

    def test_range(self):
        self.assertEqual([["-1 1"], ["-2 1"]], [Session(two_deep()).say(line) for line in ("range p", "range q")])
        self.assertEqual(["0 0"], Session(small()).say("range g"))
        for net in deep_nets()[::4]:
            for name, (low, high) in ranges(net).items():
                self.assertEqual([f"{low} {high}"], Session(net).say(f"range {name}"))
        for word in ("range", "past"):
            for name in ("x", "nobody", "f"):
                session = Session(small())
                with self.assertRaises(UnknownGate) as caught:
                    session.say(f"{word} {name}")
                self.assertEqual(name, caught.exception.name)

    def test_past(self):
        self.assertEqual([["f(a)"], ["f(b)"]], [Session(two_deep()).say(line) for line in ("past p", "past q")])
        self.assertEqual([], Session(small()).say("past g"))
        for net in deep_nets()[::4]:
            for name in net.names():
                rows, numbers = past(net, name)
                book = Book(rows)
                told = [book.text(number) if book.size(number) < 40 else None for number in numbers]
                shown = Session(net).say(f"past {name}")
                self.assertEqual(len(numbers), len(shown))
                for expected, text in zip(told, shown):
                    self.assertTrue(text == expected or expected is None)

    def test_past_values_that_are_too_long(self):
        # f(f(..f(a)..)) with n levels has 3 * n + 1 characters: 400 for 133 levels, and 403 for the next one.
        net = Net(["x"], [("g", "f", [("x", []), ("g", [0])])], [("g", [])], [("a", ())])
        rows = [("a", ())] + [("f", (n,)) for n in range(134)]
        net = Net(["x"], [("g", "f", [("x", [])])], [("g", [134, 133, 132])], rows)
        told = Session(net).say("past g")
        self.assertEqual([394 + 3, 400, "..."], [len(told[0]), len(told[1]), told[2]])
        wide = [("a", ())] + [("f", (n, n)) for n in range(30)]
        net = Net(["x"], [("g", "f", [("x", []), ("x", [])])], [("g", [30, 1, 30])], wide)
        self.assertEqual(["...", "f(a,a)", "..."], Session(net).say("past g"))
        long = advanced(chain_net(["ab" * 15] * 9, 1))
        self.assertEqual(240, len(Session(long).say("past g7")))

    def test_count(self):
        self.assertEqual([["1 1 1"], ["0 0 0"]], [Session(net).say("count") for net in (small(), Net([], [], []))])
        for net in deep_nets()[::4]:
            delays = sum(len(starts) for name in net.names() for _, starts in net.edges(name)) + sum(len(s) for _, s in net.outs())
            self.assertEqual([f"{len(net)} {delays} {len(net.terms())}"], Session(net).say("count"))

    def test_changes(self):
        session = Session(small())
        self.assertEqual([], session.say("changes"))
        session.say("lag g 0")
        self.assertEqual(["lag g 0"], session.say("changes"))
        told = session.say_all(["changes", "rename g h", "changes", "count", "lag h 0", "changes"])
        self.assertEqual([["lag g 0"], [], ["lag g 0", "rename g h"], ["1 1 1"], [], ["lag g 0", "rename g h", "lag h 0"]], told)
        session.say("undo")
        self.assertEqual(["lag g 0"], session.say("changes"))

    def test_questions_change_nothing(self):
        for net in (small(), base_net(), two_deep()):
            session = Session(net)
            session.say("advance")
            now = session.net()
            session.say("lag " + net.names()[0] + " 0")
            session.say("undo")
            for line in ASKING:
                line = line.replace(" g", " " + net.names()[0])
                told = check_new(self, session.say, line)
                spoil(session.say(line))
                self.assertEqual(told, session.say(line))
            self.assertEqual([now, ["advance"]], [session.net(), session.done()])
            self.assertEqual([], session.say("redo"))
            self.assertEqual(2, len(session))


class TestUndo(unittest.TestCase):

    def test_nothing_to_undo(self):
        session = Session(small())
        for word in ("undo", "redo"):
            check_raises(self, NothingToUndo, {}, session.say, word)
        session.say("show")
        check_raises(self, NothingToUndo, {}, session.say, "undo")
        session.say("advance")
        check_raises(self, NothingToUndo, {}, session.say, "redo")
        self.assertEqual([], session.say("undo"))
        check_raises(self, NothingToUndo, {}, session.say, "undo")
        self.assertEqual([], session.say("redo"))
        check_raises(self, NothingToUndo, {}, session.say, "redo")
        self.assertEqual(["advance"], session.done())

    def test_one_after_the_other(self):
        session = Session(base_net())
        nets = [session.net()]
        for line in ("rename g h", "start h 1 0 c", "delay h 0 0 b", "insert 0 0 z n"):
            session.say(line)
            nets.append(session.net())
        self.assertEqual(4, len(session))
        for many in (3, 2, 1, 0):
            session.say("undo")
            self.assertEqual([nets[many], many], [session.net(), len(session)])
        for many in (1, 2, 3, 4):
            session.say("redo")
            self.assertEqual([nets[many], many], [session.net(), len(session)])
        self.assertEqual(base_net(), session.first())

    def test_a_new_change_makes_redo_impossible(self):
        session = Session(small())
        session.say("rename g h")
        session.say("rename h k")
        session.say("undo")
        session.say("rename h m")
        check_raises(self, NothingToUndo, {}, session.say, "redo")
        session.say("undo")
        session.say("redo")
        self.assertEqual([["m"], ["rename g h", "rename h m"]], [session.net().names(), session.done()])

    def test_refused_commands_and_questions_leave_redo_possible(self):
        session = Session(small())
        session.say("rename g h")
        session.say("undo")
        for line in ("rename g x", "lag nobody 0", "nonsense", "drop g 1 0", "undo"):
            with self.assertRaises(REFUSALS):
                session.say(line)
        session.say("show")
        session.say_all(["show", "count"])
        session.say_all([])
        for lines in (["rename g k", "nonsense"], ["advance", "drop g 1 0"], ["undo"], None):
            with self.assertRaises(REFUSALS):
                session.say_all(lines)
        session.say("redo")
        self.assertEqual(["rename g h"], session.done())

    def test_a_change_that_leaves_the_network_as_it_is(self):
        session = Session(small())
        session.say("rename g h")
        session.say("undo")
        session.say("lag g 0")
        check_raises(self, NothingToUndo, {}, session.say, "redo")
        session.say("undo")
        check_raises(self, NothingToUndo, {}, session.say, "undo")


class TestBlocks(unittest.TestCase):

    def test_answers_and_changes(self):
        session = Session(small())
        told = session.say_all(["count", "delay 0 0 0 b", "count", "show"])
        self.assertEqual([["1 1 1"], [], ["1 2 2"]], told[:3])
        self.assertEqual((4, ["delay 0 0 0 b"]), (len(told), session.done()))
        self.assertEqual([], session.say_all([]))
        self.assertEqual([[], []], session.say_all(lines=("lag g 0", "lag g 0")))
        self.assertEqual(3, len(session))

    def test_one_undo_and_one_redo_for_all_changes(self):
        session = Session(small())
        session.say("rename g h")
        session.say_all(["rename h k", "count", "delay 0 0 0 b", "start 0 0 0 c"])
        after = session.net()
        session.say("lag k 0")
        self.assertEqual(5, len(session))
        session.say("undo")
        self.assertEqual([after, 4], [session.net(), len(session)])
        session.say("undo")
        self.assertEqual([["h"], ["rename g h"]], [session.net().names(), session.done()])
        session.say("redo")
        self.assertEqual([after, ["rename g h", "rename h k", "delay 0 0 0 b", "start 0 0 0 c"]], [session.net(), session.done()])
        session.say("undo")
        session.say("undo")
        self.assertEqual([small(), []], [session.net(), session.done()])

    def test_a_call_without_changes(self):
        session = Session(small())
        for lines in ([], ["show"], ["count", "changes", "alike"]):
            session.say_all(lines)
            check_raises(self, NothingToUndo, {}, session.say, "undo")
        session.say("rename g h")
        session.say("undo")
        session.say_all(["show", "range g"])
        session.say("redo")
        session.say_all(["show"])
        session.say("undo")
        self.assertEqual([small(), []], [session.net(), session.done()])

    def test_a_call_that_raises_restores_everything(self):
        session = Session(small())
        session.say("rename g h")
        session.say("rename h k")
        session.say("undo")
        before = session.net(), session.done(), len(session)
        for lines, error in ((["rename h m", "nonsense"], InvalidCommand), (["rename h m", "lag h 0"], UnknownGate),
                             (["lag h 0", "advance", "drop h 1 0"], Ring), (["lag h 0", None], InvalidCommand),
                             (["lag h 0", ["lag h 0"]], InvalidCommand), (["lag h 0", "undo"], InvalidCommand)):
            with self.assertRaises(error):
                session.say_all(lines)
            self.assertEqual(before, (session.net(), session.done(), len(session)))
            self.assertIs(False, session.busy)
        session.say("redo")
        self.assertEqual(["k"], session.net().names())
        session.say("undo")
        session.say("undo")
        self.assertEqual(small(), session.net())

    def test_no_list(self):
        for value in no_lists():
            session = Session(small())
            check_raises(self, InvalidPart, {"value": value}, session.say_all, value)
            check_raises(self, InvalidPart, {"value": value}, session.say_all, lines=value)
            self.assertIs(False, session.busy)

    def test_undo_and_redo_before_any_command_is_performed(self):
        for word in ("undo", "redo"):
            session = Session(small())
            session.say("lag g 0")
            wrong = "".join(list(word))
            for lines in ([wrong], ["lag g 0", wrong, "other"], ["nonsense", wrong], [None, "drop g 1 0", wrong], ["drop g 1 0", wrong]):
                check_raises(self, InvalidCommand, {"value": wrong}, session.say_all, lines)
            self.assertEqual(1, len(session))
        first, second = "".join(list("redo")), "".join(list("undo"))
        check_raises(self, InvalidCommand, {"value": first}, Session(small()).say_all, ["show", first, second])
        # A line that only begins so is looked at when its turn comes.
        with self.assertRaises(UnknownGate):
            Session(small()).say_all(["lag nobody 0", "undo 1"])
        check_raises(self, InvalidCommand, {"value": "undo 1"}, Session(small()).say_all, ["undo 1", "lag nobody 0"])

    def test_items_that_are_no_commands(self):
        for value in any_values():
            session = Session(small())
            check_raises(self, InvalidCommand, {"value": value}, session.say_all, ["show", value])

    def test_the_order_of_the_checks(self):
        session = Session(small())
        wrong = ["undo"]
        check_raises(self, InvalidCommand, {"value": wrong[0]}, session.say_all, wrong)
        check_raises(self, InvalidPart, {"value": "undo"}, session.say_all, "undo")
        check_raises(self, InvalidCommand, {"value": "redo"}, session.say_all, ["lag nobody 0", "x", "redo"])

    def test_busy(self):
        session = Session(small())
        seen = []

        class Watching(list):
            def __iter__(self):
                for item in list.__iter__(self):
                    seen.append(session.busy)
                    yield item
        session.say_all(Watching(["show", "lag g 0"]))
        self.assertEqual([True, True], seen[-2:])
        self.assertIs(False, session.busy)
        with self.assertRaises(InvalidCommand):
            session.say_all(Watching(["show", "nonsense"]))
        self.assertEqual([True, True, False], seen[-2:] + [session.busy])
        session.say("show")
        self.assertIs(False, session.busy)
        with self.assertRaises(AttributeError):
            session.busy = True

    def test_new_lists(self):
        session = Session(small())
        lines = ["show", "changes", "count", "changes", "lag g 0", "past g", "changes"]
        told = session.say_all(lines)
        self.assertEqual(len(told), len({id(inner) for inner in told}))
        spoil(told)
        lines.clear()
        self.assertEqual([["lag g 0"], ["lag g 0"]], [session.done(), session.say("changes")])
        check_new(self, session.say_all, ["show", "changes", "changes"])
        check_new(self, session.done)


class TestDrawnLines(unittest.TestCase):

    def test_against_a_second_bookkeeping(self):
        performed = 0
        for seed in range(60):
            chance = random.Random(seed)
            net = many_nets()[seed]
            session, ledger = Session(net), Ledger(net)
            for _ in range(40):
                before = session.net()
                kind = chance.choice(["say"] * 5 + ["block"] * 2 + ["undo", "undo", "redo"])
                if kind in ("undo", "redo"):
                    possible = ledger.blocks if kind == "undo" else ledger.back
                    if possible:
                        self.assertEqual([], session.say(kind))
                        getattr(ledger, kind)()
                    else:
                        check_raises(self, NothingToUndo, {}, session.say, kind)
                else:
                    lines = [drawn_line(chance, before) for _ in range(1 if kind == "say" else chance.randrange(4))]
                    try:
                        told = [session.say(lines[0])] if kind == "say" else session.say_all(lines)
                    except REFUSALS:
                        self.assertIs(before, session.net())
                    else:
                        changes = [line for line in lines if is_change(line)]
                        performed += len(changes)
                        ledger.changed(changes)
                        self.assertEqual([[]] * len(changes), [inner for line, inner in zip(lines, told) if is_change(line)])
                self.assertEqual((ledger.lines(), len(ledger.lines())), (session.done(), len(session)))
                self.assertEqual([net, False], [session.first(), session.busy])
            self.assertEqual(ledger.replayed(), session.net())
        self.assertGreater(performed, 250)

    def test_one_by_one_and_as_one_block_and_from_a_text_halfway(self):
        for seed in range(40):
            chance = random.Random(seed)
            net = many_nets()[seed]
            single = Session(net)
            told, lines = [], []
            for _ in range(30):
                line = drawn_line(chance, single.net())
                try:
                    told.append(single.say(line))
                    lines.append(line)
                except REFUSALS:
                    pass
            block = Session(net)
            self.assertEqual(told, block.say_all(lines))
            self.assertEqual([single.net(), single.done()], [block.net(), block.done()])
            half = len(lines) // 2
            first = Session(net)
            first.say_all(lines[:half])
            second = Session(net_of("\n".join(first.say("show"))))
            self.assertEqual(first.net(), second.net())
            # The second session does not know the first network of the other one, nor its changes.
            rest = [(line, inner) for line, inner in zip(lines[half:], told[half:])
                    if line.split(" ")[0] not in ("alike", "settles", "changes")]
            self.assertEqual([inner for _, inner in rest], second.say_all([line for line, _ in rest]))
            self.assertEqual([single.net(), first.net()], [second.net(), second.first()])
            for session in (block, second):
                if session.done():
                    session.say("undo")
                self.assertEqual(session.first(), session.net())

    def test_a_session_whose_commands_keep_the_answers(self):
        for seed in range(40):
            chance = random.Random(seed)
            net = many_nets()[seed]
            session = Session(net)
            for _ in range(20):
                names = session.net().names() + ["nobody"]
                line = chance.choice(["advance", "deepen", "least", "canon", f"lag {chance.choice(names)} {chance.randrange(-2, 3)}",
                                      f"rename {chance.choice(names)} z{chance.randrange(10)}"])
                try:
                    session.say(line)
                except REFUSALS:
                    pass
            self.assertTrue(alike(net, session.net()))
            self.assertEqual([["alike"], ["0"]], [session.say("alike"), session.say("settles")])
            self.assertEqual(renamed(session.net(), {}), session.net())


if __name__ == "__main__":
    unittest.main()
