"""Which gates of two networks stand at the same places behind the outs, and how many delays lie between."""


class Matching:
    """Pairs of gates that the same paths lead to in two networks, with the lags that the delays of the paths tell.

    A path is a list of integers: the number of an out, and then slots. A step is a tuple of a path, of how many more
    delays it has in the one network than in the other one, and of the sources that it ends at.
    """

    def __init__(self, one, other):
        self._one = one
        self._other = other
        self._names = {}
        self._backward = {}
        self._paths = {}
        self._lags = {}
        self._fault = None
        waiting = _steps_behind([], 0, one.outs(), other.outs())
        while waiting and self._fault is None:
            further = []
            for step in waiting:
                further.extend(self._taken(step))
            waiting = further

    def fault(self):
        """Return the kind and the paths that show why the gates do not match, or None."""
        return self._fault

    def names(self):
        """Return for each gate of the one network the gate of the other one that stands at its places."""
        return {name: self._names[name] for name in self._one.names()}

    def lags(self):
        """Return for each gate of the one network the lag that the delays tell."""
        return dict(self._lags)

    def _taken(self, step):
        """Note a step, or why it is none, and return the steps behind it."""
        path, shift, name, other_name = step
        if not self._are_of_one_kind(name, other_name):
            return self._failed("sources", [path])
        if not self._one.has_gate(name):
            return [] if shift == 0 else self._failed("delays", [path])
        if name not in self._names and other_name not in self._backward:
            self._names[name] = other_name
            self._backward[other_name] = name
            self._paths[name] = path
            self._lags[name] = shift
            return _steps_behind(path, shift, self._one.edges(name), self._other.edges(other_name))
        if self._names.get(name) != other_name:
            # One of the two has been paired with another gate.
            paired = name if name in self._names else self._backward[other_name]
            return self._failed("paired", [self._paths[paired], path])
        if self._lags[name] != shift:
            return self._failed("delays", [self._paths[name], path])
        return []

    def _failed(self, kind, paths):
        """Note the first fault; there is nothing to do behind it."""
        if self._fault is None:
            self._fault = (kind, [list(path) for path in paths])
        return []

    def _are_of_one_kind(self, name, other_name):
        """Tell whether two sources are the same input, or two gates with the same symbol."""
        if not self._one.has_gate(name) or not self._other.has_gate(other_name):
            # Both networks have the same inputs, so no gate of one has the name of an input of the other.
            return name == other_name
        symbol, edges = self._one[name]
        other_symbol, other_edges = self._other[other_name]
        return symbol == other_symbol and len(edges) == len(other_edges)


def _steps_behind(path, shift, edges, other_edges):
    """Return the steps over the edges of two gates at the end of a path, or over the outs at its beginning."""
    steps = []
    for slot, (edge, other_edge) in enumerate(zip(edges, other_edges)):
        more = len(edge[1]) - len(other_edge[1])
        steps.append(([*path, slot], shift + more, edge[0], other_edge[0]))
    return steps
