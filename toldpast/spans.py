"""Bounds for the differences of lags: those of a network, the tightest ones that follow, and rings that none meet.

A bound is a tuple (one, other, most, reason): the lag of one, less the lag of other, is at most most. None stands for
the lag 0.
"""

from toldpast.depths import depths


def net_bounds(net):
    """Return the bounds that a row of lags meets exactly if it is allowed: those of the edges, then of the depths."""
    _, gates, outs, _ = net.rows()
    found = []
    for name, _, edges in gates:
        for slot, (source, starts) in enumerate(edges):
            found.append((gate_or_none(net, source), name, len(starts), ("edge", name, slot)))
    for number, (source, starts) in enumerate(outs):
        found.append((gate_or_none(net, source), None, len(starts), ("edge", number, 0)))
    deep = depths(net)
    return found + [(name, None, deep[name], ("depth", name)) for name in net.names()]


def gate_or_none(net, place):
    """Return the name of a gate as it is; None stands for an input or an out, which always has the lag 0."""
    return place if net.has_gate(place) else None


def meets(bounds, row):
    """Tell whether a dict of lags meets all bounds; names that are no keys have the lag 0."""
    return all([row.get(one, 0) - row.get(other, 0) <= most for one, other, most, _ in bounds])


def ring_below_zero(names, bounds):
    """Return a ring of bounds whose sum is less than 0, or an empty list if some lags meet all bounds."""
    highest = {name: 0 for name in [None, *names]}
    reasons = {}
    lowered = []
    for _ in list(highest):
        lowered = []
        for bound in bounds:
            one, other, most, _ = bound
            if highest[other] + most < highest[one]:
                highest[one] = highest[other] + most
                reasons[one] = bound
                lowered.append(one)
    if not lowered:
        return []
    # After as many rounds as there are names, what is still lowered is lowered for ever: the way back is endless.
    walk = []
    name = lowered[0]
    while name not in walk:
        walk.append(name)
        name = reasons[name][1]
    return [reasons[place] for place in walk[walk.index(name):]]


def tightest(names, bounds):
    """Return for each two names the smallest bound that follows, for bounds that some lags meet."""
    every = [None, *names]
    found = {}
    for one, other, most, _ in bounds:
        _lower(found, one, other, most)
    for middle in every:
        for one in every:
            for other in every:
                if (one, middle) in found and (middle, other) in found:
                    _lower(found, one, other, found[(one, middle)] + found[(middle, other)])
    return found


def _lower(found, one, other, most):
    """Put a bound into a dict, if it is smaller than what is there."""
    if (one, other) not in found or most < found[(one, other)]:
        found[(one, other)] = most
