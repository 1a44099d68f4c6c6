"""Networks joined: one behind the other, side by side, and an out led back to an input."""

from toldpast.errors import EmptyLoop, InvalidEdge, InvalidPart, Mismatch, UnknownEdge, UnknownSource
from toldpast.netchecks import check_terms
from toldpast.nets import Net, require_net
from toldpast.termrows import shifted_rows
from toldpast.validation import is_integer, is_list


def series(one, other):
    """Return the network in which the outs of one network feed the inputs of another one."""
    require_net(one)
    require_net(other)
    if len(one.outs()) != len(other.inputs()):
        raise Mismatch(other)
    inputs, gates, ends, terms = one.rows()
    fed = dict(zip(other.inputs(), ends))
    behind, outs, more = _shifted_parts(other, len(terms))
    # This raises Duplicate and Idle with the first gate of this kind.
    return Net(inputs, gates + _fed_gates(behind, fed), _fed_edges(outs, fed), terms + more)


def beside(*nets):
    """Return the network of some networks side by side, which share inputs of one name."""
    for item in nets:
        require_net(item)
    inputs = {}
    gates = []
    outs = []
    terms = []
    for net in nets:
        inputs.update({name: True for name in net.inputs()})
        more_gates, more_outs, more_terms = _shifted_parts(net, len(terms))
        gates.extend(more_gates)
        outs.extend(more_outs)
        terms.extend(more_terms)
    # This raises Duplicate with the first gate whose name is taken.
    return Net(list(inputs), gates, outs, terms)


def looped(net, out, entry, starts, terms=()):
    """Return the network in which an out is led back to an input over some delays."""
    require_net(net)
    if not is_integer(out, 0, len(net.outs()) - 1):
        raise UnknownEdge(out, 0)
    if entry not in net.inputs():
        raise UnknownSource(entry)
    if not is_list(starts):
        raise InvalidPart(starts)
    if not is_list(terms):
        raise InvalidPart(terms)
    check_terms(terms)
    if not all([is_integer(start, 0, len(terms) - 1) for start in starts]):
        raise InvalidEdge(starts)
    inputs, gates, outs, kept = net.rows()
    source, last = outs[out]
    if source == entry:
        raise EmptyLoop(out)
    between = [start + len(kept) for start in starts]
    fed = {entry: (source, between + last)}
    left = [name for name in inputs if name != entry]
    return Net(left, _fed_gates(gates, fed), _fed_edges(outs, fed), kept + shifted_rows(terms, len(kept)))


def _shifted_parts(net, shift):
    """Return the gates, outs and terms of a network whose terms stand behind some other rows."""
    _, gates, outs, terms = net.rows()
    moved = [(name, symbol, _shifted_edges(edges, shift)) for name, symbol, edges in gates]
    return moved, _shifted_edges(outs, shift), shifted_rows(terms, shift)


def _shifted_edges(edges, shift):
    """Return edges whose starts stand behind some other rows."""
    return [(source, [start + shift for start in starts]) for source, starts in edges]


def _fed_gates(gates, fed):
    """Return gates with other sources of their edges."""
    return [(name, symbol, _fed_edges(edges, fed)) for name, symbol, edges in gates]


def _fed_edges(edges, fed):
    """Return edges in which an edge stands in place of some sources; its starts follow behind."""
    return [_fed_edge(source, starts, fed) for source, starts in edges]


def _fed_edge(source, starts, fed):
    """Return an edge, continued if its source is one that an edge stands for."""
    if source not in fed:
        return source, starts
    origin, last = fed[source]
    return origin, starts + last
