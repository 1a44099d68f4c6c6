"""Depths: how many values of each gate from before turn 0 follow from the starts that are stored behind it."""

from toldpast.nets import require_gate, require_net
from toldpast.pasts import Pasts
from toldpast.termrows import TermTable


def depths(net):
    """Return for each gate the number of its past values."""
    require_net(net)
    pasts = Pasts(net, TermTable())
    return {name: pasts.depth(name) for name in net.names()}


def past(net, gate):
    """Return the past values of a gate: term rows, and the index of the row of each past value."""
    require_net(net)
    require_gate(net, gate)
    table = TermTable()
    numbers = Pasts(net, table).numbers_of(gate)
    rows, places = table.used(numbers)
    return rows, [places[number] for number in numbers]


def bar(net, gate):
    """Return a way of gates that lack a past value, and what bars the last one: a kind and one or two edges."""
    require_net(net)
    require_gate(net, gate)
    pasts = Pasts(net, TermTable())
    name = gate
    way = [(name, pasts.depth(name) + 1)]
    kind, edges = pasts.barred(name)
    while not kind:
        name = pasts.silent_reader(name)
        way.append((name, pasts.depth(name) + 1))
        kind, edges = pasts.barred(name)
    return way, kind, edges
