"""Lags: by how many turns each gate works later, networks with such lags, and whether one is another one with lags."""

from toldpast.compare import alike
from toldpast.depths import depths
from toldpast.errors import InvalidLags, InvalidName, TooDeep, TooShort, UnknownGate
from toldpast.freeturns import FreeTurns
from toldpast.matching import Matching
from toldpast.nets import require_net, require_pair
from toldpast.pasts import Pasts
from toldpast.termrows import TermTable
from toldpast.validation import is_name, is_whole


class Lags:
    """A lag for each gate name, which never changes."""

    def __init__(self, rows):
        if not _are_lags(rows):
            raise InvalidLags(rows)
        self._rows = {name: rows[name] for name in rows if rows[name] != 0}

    def __getitem__(self, name):
        if not is_name(name):
            raise InvalidName(name)
        return self._rows.get(name, 0)

    def __iter__(self):
        raise TypeError("lags are not iterated over, their rows() are")

    def rows(self):
        """Return a dict of the lags that are not zero."""
        return dict(self._rows)

    def __eq__(self, other):
        return isinstance(other, Lags) and self._rows == other._rows

    def __or__(self, other):
        return Lags({name: max(self[name], other[name]) for name in _names_of(self, other)})

    def __and__(self, other):
        return Lags({name: min(self[name], other[name]) for name in _names_of(self, other)})

    def __add__(self, other):
        return Lags({name: self[name] + other[name] for name in _names_of(self, other)})

    def __sub__(self, other):
        return Lags({name: self[name] - other[name] for name in _names_of(self, other)})

    def __neg__(self):
        return Lags({name: -lag for name, lag in self._rows.items()})

    def __abs__(self):
        return sum([abs(lag) for lag in self._rows.values()])

    def is_below(self, other):
        """Tell whether no lag is larger than in other lags."""
        return all([self[name] <= other[name] for name in _names_of(self, other)])


def _are_lags(value):
    """Tell whether a value is a dict from names to integers."""
    if not isinstance(value, dict):
        return False
    return all([is_name(name) and is_whole(lag) for name, lag in value.items()])


def _names_of(one, other):
    """Return the names that have a lag other than zero in one of two Lags objects, some of them perhaps twice."""
    return [*one._rows, *other._rows]


def require_allowed(net, lags):
    """Return an argument as lags if they are allowed for a network; otherwise raise what they are refused with."""
    require_net(net)
    given = lags if isinstance(lags, Lags) else Lags(lags)
    unknown = [name for name in given.rows() if not net.has_gate(name)]
    if unknown:
        raise UnknownGate(min(unknown))
    _require_delays(net, _all_lags_of(net, given))
    deep = depths(net)
    for name in net.names():
        if given[name] > deep[name]:
            raise TooDeep(name)
    return given


def _all_lags_of(net, given):
    """Return a dict of the lags of all inputs and gates."""
    return {name: given[name] for name in net.inputs() + net.names()}


def _require_delays(net, late):
    """Raise TooShort for the first edge that would have less than zero delays."""
    _, gates, outs, _ = net.rows()
    for name, _, edges in gates:
        for slot, (source, starts) in enumerate(edges):
            if len(starts) + late[name] - late[source] < 0:
                raise TooShort(name, slot)
    for number, (source, starts) in enumerate(outs):
        if len(starts) - late[source] < 0:
            raise TooShort(number, 0)


def lagged(net, lags):
    """Return the network in which each gate works as many turns later as its lag says."""
    late = _all_lags_of(net, require_allowed(net, lags))
    table = TermTable()
    pasts = Pasts(net, table)
    run = FreeTurns(net, -min(list(late.values()), default=0), table)
    inputs, gates, outs, _ = net.rows()
    moved = []
    for name, symbol, edges in gates:
        # What the gate reads before its former turn 0 is told by its past values, the earliest one first.
        before = pasts.numbers_of(name)[:max(0, late[name])][::-1]
        told = [[table.row(number)[1][slot] for number in before] for slot in range(len(edges))]
        moved.append((name, symbol, _lagged_edges(run, edges, late, late[name], told)))
    return run.begun(inputs, moved, _lagged_edges(run, outs, late, 0, [[] for _ in outs]))


def _lagged_edges(run, edges, late, lag, told):
    """Return the edges to a reader with a lag, given what each of its slots reads before turn 0."""
    found = []
    for (source, starts), before in zip(edges, told):
        end = len(starts) - late[source]
        first = max(0, -lag)
        here = before[:end + lag] + run.delivered((source, starts), first, max(first, end))
        found.append((source, here))
    return found


def deepest(net):
    """Return the network that is lagged by the depths of all gates."""
    return lagged(net, depths(net))


def related(one, other):
    """Tell whether one network is another one with other lags and names, and if not, why."""
    require_pair(one, other)
    match = Matching(one, other)
    fault = match.fault()
    if fault is not None:
        kind, paths = fault
        return "none", kind, paths
    if not alike(one, other):
        return "none", "starts", []
    return "lags", match.names(), Lags(match.lags())
