"""The smallest network that is alike to a network: gates that work early, each one once, in a standard order."""

from toldpast.freeturns import FreeTurns
from toldpast.nets import Net, renamed, require_net
from toldpast.termrows import TermTable


def distances(net):
    """Return for each gate the smallest number of delays of a way from an input."""
    require_net(net)
    inputs, gates, _, _ = net.rows()
    found = {name: 0 for name in inputs}
    changed = True
    while changed:
        changed = False
        for name, _, edges in gates:
            ways = [found[source] + len(starts) for source, starts in edges if source in found]
            if ways and (name not in found or min(ways) < found[name]):
                found[name] = min(ways)
                changed = True
    return {name: found[name] for name in net.names()}


def advanced(net):
    """Return the network in which each gate works as early as the inputs permit."""
    early = distances(net)
    inputs, gates, outs, _ = net.rows()
    run = FreeTurns(net, max(list(early.values()), default=0), TermTable())
    moved = [(name, symbol, _advanced_edges(run, edges, early, early[name])) for name, symbol, edges in gates]
    return run.begun(inputs, moved, _advanced_edges(run, outs, early, 0))


def _advanced_edges(run, edges, early, turns_early):
    """Return the edges to a reader that works some turns early; their starts are what they deliver until then."""
    found = []
    for source, starts in edges:
        end = len(starts) + early.get(source, 0)
        found.append((source, run.delivered((source, starts), turns_early, end)))
    return found


def classes(net):
    """Return the lists of gates that have equal values at every turn in the advanced network."""
    return _classes_of(advanced(net))


def _classes_of(net):
    """Return the lists of gates of a network that has been advanced which have equal values at every turn."""
    forms = _forms_of(net)
    kinds = {name: 0 for name in forms}
    finer = _finer_kinds(forms, kinds)
    while max(list(finer.values()), default=0) > max(list(kinds.values()), default=0):
        kinds = finer
        finer = _finer_kinds(forms, kinds)
    found = {}
    for name in forms:
        found.setdefault(finer[name], []).append(name)
    return list(found.values())


def _forms_of(net):
    """Return for each gate its symbol, the numbers of the lists of starts of its edges, and its sources."""
    numbers = {}
    forms = {}
    for name in net.names():
        symbol, edges = net[name]
        lists = [numbers.setdefault(tuple(starts), len(numbers)) for _, starts in edges]
        forms[name] = (symbol, tuple(lists), [source for source, _ in edges])
    return forms


def _finer_kinds(forms, kinds):
    """Number the gates anew: two get one number if they have one form, with sources that had one number before."""
    numbers = {}
    found = {}
    for name in forms:
        symbol, lists, sources = forms[name]
        # An input has no number: its name stands for it.
        key = (symbol, lists, tuple([kinds.get(source, source) for source in sources]))
        found[name] = numbers.setdefault(key, len(numbers))
    return found


def least(net):
    """Return the advanced network with only the first gate of each class."""
    early = advanced(net)
    chosen = {}
    for names in _classes_of(early):
        for name in names:
            chosen[name] = names[0]
    inputs, gates, outs, terms = early.rows()
    kept = [(name, symbol, _chosen_edges(edges, chosen)) for name, symbol, edges in gates if chosen[name] == name]
    return Net(inputs, kept, _chosen_edges(outs, chosen), terms)


def _chosen_edges(edges, chosen):
    """Return edges with the chosen gates in place of their sources."""
    return [(chosen.get(source, source), starts) for source, starts in edges]


def canonical(net):
    """Return the smallest network with its gates in the standard order and with standard names."""
    small = least(net)
    inputs, gates, outs, terms = small.rows()
    order = _order_of_visits(gates, outs)
    ordered = [(name, small.symbol(name), small.edges(name)) for name in order]
    names = dict(zip(order, _standard_names(inputs, len(order))))
    return renamed(Net(inputs, ordered, outs, terms), names)


def _order_of_visits(gates, outs):
    """Return the names of the gates in the order of the first visit, from the outs backward."""
    sources = {}
    for name, _, edges in gates:
        sources[name] = [source for source, _ in edges]
    listed = {}
    waiting = [source for source, _ in outs][::-1]
    while waiting:
        name = waiting.pop()
        if name in sources and name not in listed:
            listed[name] = True
            waiting.extend(sources[name][::-1])
    return list(listed)


def _standard_names(inputs, count):
    """Return the first names of the form g0, g1, g2 that are no names of inputs."""
    names = []
    index = 0
    while len(names) < count:
        name = f"g{index}"
        if name not in inputs:
            names.append(name)
        index = index + 1
    return names
