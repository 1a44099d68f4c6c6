"""Moves: the lag of one gate changed by one turn; which are possible, and which lead from some lags to others."""

from toldpast.depths import depths
from toldpast.errors import InvalidInteger, InvalidPart, InvalidStep, TooMany
from toldpast.lags import Lags, lagged, require_allowed
from toldpast.least import distances
from toldpast.nets import require_gate, require_net
from toldpast.spans import meets, net_bounds, tightest
from toldpast.validation import is_integer, is_list, is_whole

MOST_ROWS = 2000


def move(net, gate, step):
    """Return the network in which one gate works one turn later or earlier."""
    require_net(net)
    require_gate(net, gate)
    if not is_whole(step) or step not in (1, -1):
        raise InvalidStep(step)
    return lagged(net, {gate: step})


def moves(net):
    """Return all moves that are possible."""
    require_net(net)
    limits = net_bounds(net)
    return [(name, step) for name in net.names() for step in (1, -1) if meets(limits, {name: step})]


def stages(net, steps):
    """Yield the network after each of some moves, each one performed on the network after the one before."""
    require_net(net)
    if not is_list(steps):
        raise InvalidPart(steps)
    for item in steps:
        if not is_list(item) or len(item) != 2:
            raise InvalidPart(item)
    # The moves are kept, so that a list that is changed between two networks changes nothing here.
    kept = [(gate, step) for gate, step in steps]
    now = net
    for gate, step in kept:
        now = move(now, gate, step)
        yield now


def plan(net, lags, *, start=None):
    """Return moves that lead from a network with some lags to the one with others, as few as there can be."""
    goal = require_allowed(net, lags)
    begin = require_allowed(net, {} if start is None else start)
    # The larger ones of both are allowed too, and from there no gate that is to go down bars all the others.
    top = begin | goal
    return _straight_moves(net, begin, top, 1) + _straight_moves(net, top, goal, -1)


def _straight_moves(net, begin, goal, step):
    """Return moves with the same step that lead from allowed lags to others."""
    names = net.names()
    limits = net_bounds(net)
    near = {name: [bound for bound in limits if name in bound[:2]] for name in names}
    row = {name: begin[name] for name in names}
    found = []
    many = abs(goal - begin)
    while len(found) < many:
        for name in names:
            while row[name] != goal[name] and meets(near[name], {**row, name: row[name] + step}):
                row[name] = row[name] + step
                found.append((name, step))
    return found


def ranges(net):
    """Return for each gate the smallest and the greatest lag that it has in any allowed row."""
    early = distances(net)
    deep = depths(net)
    return {name: (-early[name], deep[name]) for name in net.names()}


def all_lags(net, *, most=200):
    """Return all allowed rows of lags in ascending order."""
    require_net(net)
    if not is_integer(most, 1, MOST_ROWS):
        raise InvalidInteger(most)
    names = net.names()
    tight = tightest(names, net_bounds(net))
    rows = [{None: 0}]
    for name in names:
        # With the tightest bounds each row can be continued, so there are never more rows than there will be.
        rows = _longer_rows(rows, name, tight, most)
    return [Lags({name: row[name] for name in names}) for row in rows]


def _longer_rows(rows, name, tight, most):
    """Return rows of lags, each one continued by all lags that a further gate may have; raise TooMany(most)."""
    found = []
    for row in rows:
        low = max([row[other] - tight[(other, name)] for other in row if (other, name) in tight])
        high = min([row[other] + tight[(name, other)] for other in row if (name, other) in tight])
        for lag in range(low, high + 1):
            if len(found) == most:
                raise TooMany(most)
            found.append({**row, name: lag})
    return found
