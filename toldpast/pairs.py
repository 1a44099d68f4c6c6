"""Two networks side by side: at which turns, and at which places, the values of their gates differ.

Both are taken in the form in which each gate works as early as the inputs permit. There the value of a gate at a turn
contains a sample of this very turn, and none of a later one. So what a start of one network delivers never equals
the value of a gate or an input of the other one, and values of different turns never are equal.
"""

from toldpast.least import advanced
from toldpast.termrows import TermTable, arguments_of


class EarlyNet:
    """A network whose gates work early, with starts that are numbers of terms in a table."""

    def __init__(self, net, table):
        early = advanced(net)
        numbers = table.enter_terms(early.terms())
        self._symbols = {name: early.symbol(name) for name in early.names()}
        self._edges = {name: _numbered(early.edges(name), numbers) for name in early.names()}
        self._last_edges = _numbered(early.outs(), numbers)

    def edges_to(self, name):
        """Return the edges of a gate; an input has none."""
        return self._edges.get(name, [])

    def out_edges(self):
        """Return the edges of the outs."""
        return self._last_edges

    def head(self, name, turn):
        """Return what stands at the beginning of the value of an input or a gate at a turn."""
        if name not in self._edges:
            return f"{name}@{turn}"
        return f"{self._symbols[name]}/{len(self._edges[name])}"


def _numbered(edges, numbers):
    """Return edges with the numbers of their starts in a table in place of indices."""
    return [(source, [numbers[start] for start in starts]) for source, starts in edges]


def _link_of(edge, other_edge):
    """Return how two edges compare: the first and the last turn at which they differ by their starts, and what follows.

    What follows is the number of delays and the pair of sources; the pair is None if the numbers of delays differ, as
    one edge then delivers a start where the other one delivers a value, and later on values of different turns.
    """
    source, starts = edge
    other_source, other_starts = other_edge
    unlike = [turn for turn, (one, other) in enumerate(zip(starts, other_starts)) if one != other]
    delays = min(len(starts), len(other_starts))
    pair = (source, other_source)
    if len(starts) != len(other_starts):
        unlike.append(delays)
        pair = None
    return min(unlike, default=None), max(unlike, default=None), delays, pair


def _links_between(edges, other_edges):
    """Return how the edges of two lists compare."""
    return [_link_of(edge, other_edge) for edge, other_edge in zip(edges, other_edges)]


def _first_of_link(link, firsts):
    """Return the first turn at which two edges differ, as far as it is known when their sources do, or None."""
    here, _, delays, pair = link
    if here is not None:
        return here
    return delays + firsts[pair] if pair in firsts else None


def _last_of_link(link, lasts):
    """Return the last turn at which two edges differ, as far as it is known when their sources do, or None."""
    _, here, delays, pair = link
    return delays + lasts[pair] if pair in lasts else here


def _present(turns):
    """Return those items of a list that are turns."""
    return [turn for turn in turns if turn is not None]


class Pairs:
    """The pairs of inputs and gates of two networks that stand at the same places of their answers."""

    def __init__(self, one, other):
        table = TermTable()
        self._table = table
        self._one = EarlyNet(one, table)
        self._other = EarlyNet(other, table)
        self._outs = _links_between(self._one.out_edges(), self._other.out_edges())
        self._links = {}
        self._unlike = []
        self._walk()
        self._firsts = self._first_turns()

    def _walk(self):
        """Find all pairs that are sources of compared edges, and how the edges behind them compare."""
        waiting = [pair for _, _, _, pair in self._outs if pair is not None]
        while waiting:
            pair = waiting.pop()
            if pair not in self._links:
                self._links[pair] = self._links_behind(pair)
                waiting.extend([further for _, _, _, further in self._links[pair] if further is not None])

    def _links_behind(self, pair):
        """Return how the edges of two gates compare; there is nothing to compare if the two values begin unlike."""
        name, other_name = pair
        if self._one.head(name, 0) != self._other.head(other_name, 0):
            self._unlike.append(pair)
            return []
        return _links_between(self._one.edges_to(name), self._other.edges_to(other_name))

    def _first_turns(self):
        """Return the first turn at which the values of a pair differ, for those pairs for which there is one."""
        found = {pair: 0 for pair in self._unlike}
        changed = True
        while changed:
            changed = False
            for pair in self._links:
                turns = _present([_first_of_link(link, found) for link in self._links[pair]])
                if turns and (pair not in found or min(turns) < found[pair]):
                    found[pair] = min(turns)
                    changed = True
        return found

    def parting(self):
        """Return the first turn at which any answers differ and the first out that differs then, or None."""
        turns = [_first_of_link(link, self._firsts) for link in self._outs]
        if not _present(turns):
            return None
        turn = min(_present(turns))
        return turn, turns.index(turn)

    def settled(self):
        """Return the first turn from which on all answers are equal, or None if there is none."""
        links = self._outs + [link for pair in self._links for link in self._links[pair]]
        if self._unlike or None in [pair for _, _, _, pair in links]:
            return None
        lasts = self._last_turns()
        if lasts is None:
            return None
        turns = _present([_last_of_link(link, lasts) for link in self._outs])
        return max(turns) + 1 if turns else 0

    def _last_turns(self):
        """Return the last turn at which the values of a pair differ, for those that ever do; None if one has no last.

        A way of pairs that is longer than there are pairs leads through a ring, and so on for ever.
        """
        found = {}
        for _ in range(len(self._links) + 1):
            changed = False
            for pair in self._links:
                turns = _present([_last_of_link(link, found) for link in self._links[pair]])
                if turns and (pair not in found or max(turns) > found[pair]):
                    found[pair] = max(turns)
                    changed = True
            if not changed:
                return found
        return None

    def place(self, turn, out):
        """Return the slots that lead to the first place where two answers part, and what stands there in both.

        The answers are those that parting() tells. A value is given by its source and its turn, a start by None and
        its number in the table.
        """
        here = _delivered(self._one.out_edges()[out], turn)
        there = _delivered(self._other.out_edges()[out], turn)
        slots = []
        while self._head(self._one, here) == self._head(self._other, there):
            inner, other_inner = self._arguments(self._one, here), self._arguments(self._other, there)
            unlike = [self._differ(one, other) for one, other in zip(inner, other_inner)]
            slot = unlike.index(True)
            slots.append(slot)
            here, there = inner[slot], other_inner[slot]
        return slots, self._head(self._one, here), self._head(self._other, there)

    def _head(self, side, value):
        """Return what stands at the beginning of a value."""
        source, number = value
        if source is not None:
            return side.head(source, number)
        row = self._table.row(number)
        return f"{row[0]}/{len(row[1])}"

    def _arguments(self, side, value):
        """Return the arguments of a value."""
        source, number = value
        if source is None:
            return [(None, argument) for argument in arguments_of(self._table.row(number))]
        return [_delivered(edge, number) for edge in side.edges_to(source)]

    def _differ(self, here, there):
        """Tell whether two values differ that stand at one place of answers which were equal until this turn."""
        source, number = here
        other_source, other_number = there
        if source is None or other_source is None:
            return here != there
        # At an earlier turn than their first one no values of a pair differ; at a later one the answers did before.
        return self._firsts.get((source, other_source)) == number


def _delivered(edge, turn):
    """Return what an edge delivers at a turn: a source and its turn, or None and the number of a start."""
    source, starts = edge
    return (None, starts[turn]) if turn < len(starts) else (source, turn - len(starts))
