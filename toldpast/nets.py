"""Networks of gates, joined by edges with delays, and networks with other names."""

from toldpast.errors import InvalidName, InvalidNet, InvalidPart, Mismatch, UnknownEdge, UnknownGate, UnknownSource
from toldpast.netchecks import check_parts
from toldpast.termrows import TermTable
from toldpast.validation import is_integer, is_name, ordered_keys
from toldpast.wiring import all_starts


class Net:
    """A network, which never changes."""

    def __init__(self, inputs, gates, outs, terms=()):
        check_parts(inputs, gates, outs, terms)
        table = TermTable()
        numbers = table.enter_terms(terms)
        starts = all_starts(gates, outs)
        kept, places = table.used([numbers[start] for start in starts])
        moved = {start: places[numbers[start]] for start in starts}
        self._terms = kept
        self._inputs = list(inputs)
        self._names = [name for name, _, _ in gates]
        self._symbols = {name: symbol for name, symbol, _ in gates}
        self._edges = {name: _kept_edges(edges, moved) for name, _, edges in gates}
        self._outs = _kept_edges(outs, moved)

    def terms(self):
        """Return the term rows in their standard form."""
        return list(self._terms)

    def inputs(self):
        """Return the names of the inputs."""
        return list(self._inputs)

    def names(self):
        """Return the names of the gates."""
        return list(self._names)

    def edges(self, name):
        """Return the edges of a gate."""
        require_gate(self, name)
        return _given_edges(self._edges[name])

    def symbol(self, name):
        """Return the name of the symbol of a gate."""
        require_gate(self, name)
        return self._symbols[name]

    def outs(self):
        """Return the edges of the outs."""
        return _given_edges(self._outs)

    def rows(self):
        """Return the four lists that an equal network can be made of."""
        gates = [(name, self.symbol(name), self.edges(name)) for name in self._names]
        return self.inputs(), gates, self.outs(), self.terms()

    def readers(self, name):
        """Return the gates with their slots, and then the outs, that an input or a gate is the source of."""
        if name not in self:
            raise UnknownSource(name)
        found = []
        for reader in self._names:
            for slot, edge in enumerate(self._edges[reader]):
                if edge[0] == name:
                    found.append((reader, slot))
        for number, edge in enumerate(self._outs):
            if edge[0] == name:
                found.append((number, 0))
        return found

    def delays(self, reader, slot):
        """Return the number of delays of an edge."""
        return len(self._edge(reader, slot)[1])

    def source(self, reader, slot):
        """Return the name of the source of an edge."""
        return self._edge(reader, slot)[0]

    def _edge(self, reader, slot):
        """Return the edge that leads to a slot of a gate, or to an out."""
        edges = self._edges_to(reader)
        if not is_integer(slot, 0, len(edges) - 1):
            raise UnknownEdge(reader, slot)
        return edges[slot]

    def _edges_to(self, reader):
        """Return the edges to a gate or an out; any other value has none."""
        if self.has_gate(reader):
            return self._edges[reader]
        if is_integer(reader, 0, len(self._outs) - 1):
            return [self._outs[reader]]
        return []

    def has_gate(self, name):
        """Tell whether a value is the name of a gate."""
        return is_name(name) and name in self._edges

    def __len__(self):
        return len(self._names)

    def __contains__(self, value):
        return self.has_gate(value) or value in self._inputs

    def __getitem__(self, name):
        return self.symbol(name), self.edges(name)

    def __iter__(self):
        raise TypeError("a network is not iterated over, its names() are")

    def __eq__(self, other):
        return isinstance(other, Net) and self.rows() == other.rows()


def _kept_edges(edges, moved):
    """Return edges as a network keeps them, with other indices of their starts."""
    return [(source, tuple([moved[start] for start in starts])) for source, starts in edges]


def _given_edges(edges):
    """Return edges as a network gives them away, in new lists."""
    return [(source, list(starts)) for source, starts in edges]


def require_net(value):
    """Raise InvalidNet if a value is not a network."""
    if not isinstance(value, Net):
        raise InvalidNet(value)


def require_pair(one, other):
    """Raise an exception if two values are not networks with the same inputs and with as many outs."""
    require_net(one)
    require_net(other)
    if not are_comparable(one, other):
        raise Mismatch(other)


def are_comparable(one, other):
    """Tell whether two networks have the same inputs and as many outs."""
    return one.inputs() == other.inputs() and len(one.outs()) == len(other.outs())


def require_gate(net, name):
    """Raise UnknownGate if a value is not the name of a gate of a network."""
    if not net.has_gate(name):
        raise UnknownGate(name)


def symbols_of(net):
    """Return the names of the symbols of a network: those of its terms, and then those of its gates."""
    return [name for name, _ in net.terms()] + [net.symbol(name) for name in net.names()]


def renamed(net, names):
    """Return the network in which inputs and gates have the names that a dict gives for them."""
    require_net(net)
    if not isinstance(names, dict):
        raise InvalidPart(names)
    inputs, gates, outs, terms = net.rows()
    present = inputs + net.names()
    for name in present:
        if name in names and not is_name(names[name]):
            raise InvalidName(names[name])
    _check_keys(names, net)
    final = {name: names.get(name, name) for name in present}
    moved = [(final[name], symbol, _moved_edges(edges, final)) for name, symbol, edges in gates]
    # This raises Duplicate with the first name that an earlier input or gate has by then.
    return Net([final[name] for name in inputs], moved, _moved_edges(outs, final), terms)


def _check_keys(names, net):
    """Raise UnknownSource if a key of a dict is no input or gate."""
    for key in ordered_keys(names):
        if key not in net:
            raise UnknownSource(key)


def _moved_edges(edges, names):
    """Return edges with other names of their sources."""
    return [(names[source], starts) for source, starts in edges]
