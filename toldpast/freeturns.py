"""What the edges of a network deliver at its first turns with the free meaning, and networks that begin with it."""

from toldpast.nets import Net, symbols_of
from toldpast.runs import Machine
from toldpast.termrows import free_meaning
from toldpast.wiring import all_starts


class FreeTurns:
    """The first turns of a network with the free meaning; values are numbers of terms and samples in a table."""

    def __init__(self, net, count, table):
        self._table = table
        self._starts = table.enter_terms(net.terms())
        self._history = []
        machine = Machine(net, free_meaning(table, symbols_of(net)))
        inputs, names = net.inputs(), net.names()
        for turn in range(count):
            machine([table.enter((name, turn)) for name in inputs])
            self._history.append({name: machine.value_at(name) for name in names})

    def delivered(self, edge, first, end):
        """Return what an edge delivers from a first turn on and before an end; this must come from no input."""
        source, starts = edge
        delays = len(starts)
        told = [self._starts[start] for start in starts[first:end]]
        for turn in range(max(first, delays), end):
            told.append(self._history[turn - delays][source])
        return told

    def begun(self, inputs, gates, outs):
        """Return the network of some parts, in which starts are numbers of terms."""
        kept, places = self._table.used(all_starts(gates, outs))
        moved = [(name, symbol, _placed_edges(edges, places)) for name, symbol, edges in gates]
        return Net(inputs, moved, _placed_edges(outs, places), kept)


def _placed_edges(edges, places):
    """Return edges with other indices of their starts."""
    return [(source, [places[start] for start in starts]) for source, starts in edges]
