"""Wishes for lags and delays: the smallest and the greatest lags that meet them, or why there are none."""

from toldpast.errors import InvalidPart, InvalidWish
from toldpast.lags import Lags
from toldpast.nets import require_gate, require_net
from toldpast.spans import gate_or_none, net_bounds, ring_below_zero, tightest
from toldpast.validation import is_list, is_whole


def is_wish(value):
    """Tell whether a value is a tuple of one of the three forms of wishes."""
    if not isinstance(value, tuple) or len(value) not in (4, 5):
        return False
    kind = value[0]
    if kind == "edge":
        return len(value) == 5 and _is_limit(value[3]) and _is_limit(value[4])
    if kind == "lag":
        return len(value) == 4 and _is_limit(value[2]) and _is_limit(value[3])
    return kind == "apart" and len(value) == 4 and is_whole(value[3])


def _is_limit(value):
    """Tell whether a value is an integer, or None, which stands for no limit."""
    return value is None or is_whole(value)


def _require_wishes(net, wishes):
    """Raise an exception if a value is no network, or another one is no list of wishes for it."""
    require_net(net)
    if not is_list(wishes):
        raise InvalidPart(wishes)
    for item in wishes:
        if not is_wish(item):
            raise InvalidWish(item)
        if item[0] == "edge":
            # The network refuses to tell the delays of an edge that it does not have.
            net.delays(item[1], item[2])
        else:
            require_gate(net, item[1])
        if item[0] == "apart":
            require_gate(net, item[2])


def meet(net, wishes, *, greatest=False):
    """Return the smallest or the greatest allowed lags that satisfy all wishes, or a ring of bounds."""
    limits = bounds(net, wishes)
    if greatest is not True and greatest is not False:
        raise InvalidPart(greatest)
    names = net.names()
    ring = ring_below_zero(names, limits)
    if ring:
        return "none", ring
    tight = tightest(names, limits)
    if greatest:
        return "met", Lags({name: tight[(name, None)] for name in names})
    return "met", Lags({name: -tight[(None, name)] for name in names})


def bounds(net, wishes):
    """Return the bounds that lags meet exactly if they are allowed and satisfy all wishes."""
    _require_wishes(net, wishes)
    found = net_bounds(net)
    for index, wish in enumerate(wishes):
        found.extend(_bounds_of_wish(net, wish, ("wish", index)))
    return found


def _bounds_of_wish(net, wish, reason):
    """Return the bounds that one wish stands for."""
    if wish[0] == "apart":
        _, one, other, most = wish
        return [(one, other, most, reason)]
    if wish[0] == "lag":
        _, one, low, high = wish
        return _bounds_between(None, one, low, high, 0, reason)
    _, reader, slot, low, high = wish
    source = gate_or_none(net, net.source(reader, slot))
    return _bounds_between(source, gate_or_none(net, reader), low, high, net.delays(reader, slot), reason)


def _bounds_between(one, other, low, high, delays, reason):
    """Return bounds that leave from low to high of some delays on the way from one to other."""
    found = []
    if low is not None:
        found.append((one, other, delays - low, reason))
    if high is not None:
        found.append((other, one, high - delays, reason))
    return found


def shows_none(net, wishes, ring):
    """Tell whether a value is a ring of bounds, which shows that no allowed lags satisfy all wishes."""
    limits = bounds(net, wishes)
    if not is_list(ring) or not all([_is_among(item, limits) for item in ring]):
        return False
    firsts = [item[0] for item in ring]
    seconds = [item[1] for item in ring]
    different = {first: True for first in firsts}
    closed = seconds == firsts[1:] + firsts[:1] and len(different) == len(firsts)
    # An empty list has the sum 0, and is no ring.
    return closed and sum([item[2] for item in ring]) < 0


def _is_among(value, bounds_told):
    """Tell whether a value is one of some bounds."""
    return any([_is_same(value, bound) for bound in bounds_told])


def _is_same(value, told):
    """Tell whether a value is what is told: tuples are no lists, and True and False no integers."""
    if isinstance(told, tuple):
        if not isinstance(value, tuple) or len(value) != len(told):
            return False
        return all([_is_same(item, inner) for item, inner in zip(value, told)])
    return not isinstance(value, bool) and value == told
