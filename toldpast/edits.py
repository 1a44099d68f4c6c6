"""The commands that change the network of a session: each one tells another network."""

from toldpast.errors import InvalidInteger, InvalidPart, TooMany
from toldpast.lags import deepest, lagged
from toldpast.least import advanced, canonical, least
from toldpast.nets import Net, renamed, require_gate
from toldpast.termrows import shifted_rows

MOST_DELAYS = 20
MOST_GATES = 8


def edited(net, word, values):
    """Return the network after a command, given its first word and what the others tell; None if it is no change."""
    if word not in EDITS:
        return None
    edit = EDITS[word]
    return edit(net, *values)


def _lag(net, gate, lag):
    """Give a gate a lag."""
    require_gate(net, gate)
    return lagged(net, {gate: lag})


def _advance(net):
    """Let each gate work as early as the inputs permit."""
    return advanced(net)


def _deepen(net):
    """Let each gate work as late as its depth permits."""
    return deepest(net)


def _least(net):
    """Take the smallest network."""
    return least(net)


def _canon(net):
    """Take the smallest network in its standard form."""
    return canonical(net)


def _rename(net, name, new):
    """Give an input or a gate another name."""
    return renamed(net, {name: new})


def _start(net, reader, slot, index, rows):
    """Put a term in the place of a start of an edge."""
    source, starts = _edge_at(net, reader, slot)
    _require_index(index, len(starts))
    return _with_edge(net, reader, slot, (source, starts[:index] + [_last_of(net, rows)] + starts[index + 1:]), rows)


def _delay(net, reader, slot, index, rows):
    """Give an edge one more delay, with a term as its start."""
    source, starts = _edge_at(net, reader, slot)
    _require_index(index, len(starts) + 1)
    if len(starts) >= MOST_DELAYS:
        raise TooMany(MOST_DELAYS)
    return _with_edge(net, reader, slot, (source, starts[:index] + [_last_of(net, rows)] + starts[index:]), rows)


def _drop(net, reader, slot, index):
    """Take a delay from an edge, and the start that it holds."""
    source, starts = _edge_at(net, reader, slot)
    _require_index(index, len(starts))
    return _with_edge(net, reader, slot, (source, starts[:index] + starts[index + 1:]), [])


def _source(net, reader, slot, name):
    """Give an edge another source."""
    _, starts = _edge_at(net, reader, slot)
    return _with_edge(net, reader, slot, (name, starts), [])


def _insert(net, reader, slot, name, symbol):
    """Put a new gate between an edge and its reader."""
    edge = _edge_at(net, reader, slot)
    if len(net) >= MOST_GATES:
        raise TooMany(MOST_GATES)
    inputs, gates, outs, terms = _parts_with_edge(net, reader, slot, (name, []))
    return Net(inputs, [*gates, (name, symbol, [edge])], outs, terms)


def _bypass(net, gate):
    """Take a gate with one edge away; what it was the source of gets the source of that edge."""
    edges = net.edges(gate)
    if len(edges) > 1:
        raise InvalidPart(gate)
    inputs, gates, outs, terms = net.rows()
    kept = [(name, symbol, _past_gate(inner, gate, edges[0])) for name, symbol, inner in gates if name != gate]
    return Net(inputs, kept, _past_gate(outs, gate, edges[0]), terms)


def _past_gate(edges, gate, edge):
    """Return edges that lead past a gate, given its own edge."""
    origin, last = edge
    return [(origin, starts + last) if source == gate else (source, starts) for source, starts in edges]


def _edge_at(net, reader, slot):
    """Return an edge; raise UnknownEdge if there is none."""
    # The network refuses to tell the delays of an edge that it does not have.
    net.delays(reader, slot)
    edges = net.edges(reader) if net.has_gate(reader) else [net.outs()[reader]]
    return edges[slot]


def _require_index(index, count):
    """Raise InvalidInteger if a number from 0 on is not below a count."""
    if index >= count:
        raise InvalidInteger(index)


def _last_of(net, rows):
    """Return the index that the last one of some term rows has behind those of a network."""
    return len(net.terms()) + len(rows) - 1


def _with_edge(net, reader, slot, edge, rows):
    """Return the network with another edge at a place, the starts of which may be some further term rows."""
    inputs, gates, outs, terms = _parts_with_edge(net, reader, slot, edge)
    return Net(inputs, gates, outs, terms + shifted_rows(rows, len(terms)))


def _parts_with_edge(net, reader, slot, edge):
    """Return the four lists of a network, with another edge at a place."""
    inputs, gates, outs, terms = net.rows()
    changed = []
    for name, symbol, edges in gates:
        kept = edges[:slot] + [edge] + edges[slot + 1:] if name == reader else edges
        changed.append((name, symbol, kept))
    if not net.has_gate(reader):
        outs = outs[:reader] + [edge] + outs[reader + 1:]
    return inputs, changed, outs, terms


EDITS = {
    "lag": _lag,
    "advance": _advance,
    "deepen": _deepen,
    "least": _least,
    "canon": _canon,
    "rename": _rename,
    "start": _start,
    "delay": _delay,
    "drop": _drop,
    "source": _source,
    "insert": _insert,
    "bypass": _bypass,
}
