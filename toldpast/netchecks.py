"""The checks of what a network is made of, in the order in which they are promised."""

from toldpast.errors import Dry, Duplicate, Idle, InvalidEdge, InvalidName, InvalidPart, InvalidRow, Ring
from toldpast.errors import UnknownSource
from toldpast.validation import MOST_ARGUMENTS, is_integer, is_list, is_name
from toldpast.wiring import beginnings_of_ways, ends_of_ways, ring_without_delay


def check_parts(inputs, gates, outs, terms):
    """Raise an exception if these lists are not the parts of a network."""
    for argument in (inputs, gates, outs, terms):
        if not is_list(argument):
            raise InvalidPart(argument)
    names = {}
    _check_inputs(inputs, names)
    _check_gates(gates, names)
    check_terms(terms)
    _check_edges(gates, outs, names, len(terms))
    _check_ways(inputs, gates, outs)


def _check_inputs(inputs, names):
    """Check the inputs, and put them among the names that are taken."""
    for item in inputs:
        _take_name(item, names)


def _take_name(value, names):
    """Put a value among the names that are taken, if it is a name that is free."""
    if not is_name(value):
        raise InvalidName(value)
    if value in names:
        raise Duplicate(value)
    names[value] = True


def _check_gates(gates, names):
    """Check the gates but for their edges, and put their names among those that are taken."""
    for item in gates:
        if not is_list(item) or len(item) != 3:
            raise InvalidPart(item)
        name, symbol, edges = item
        _take_name(name, names)
        if not is_name(symbol):
            raise InvalidName(symbol)
        if not is_list(edges) or not 1 <= len(edges) <= MOST_ARGUMENTS:
            raise InvalidPart(edges)


def check_terms(terms):
    """Raise an exception if an item of a list is not a term row that may stand at its place."""
    for index, item in enumerate(terms):
        if not is_list(item) or len(item) != 2 or not is_list(item[1]) or len(item[1]) > MOST_ARGUMENTS:
            raise InvalidRow(item)
        if not is_name(item[0]):
            raise InvalidName(item[0])
        if not _are_indices(item[1], index):
            raise InvalidRow(item)


def _are_indices(values, count):
    """Tell whether all items of a list are indices into a list of some length."""
    return all([is_integer(value, 0, count - 1) for value in values])


def _check_edges(gates, outs, names, count):
    """Check the edges of the gates and then those of the outs."""
    for _, _, edges in gates:
        for item in edges:
            _check_edge(item, names, count)
    for item in outs:
        _check_edge(item, names, count)


def _check_edge(item, names, count):
    """Check one edge: its form, its source, and then its starts."""
    if not is_list(item) or len(item) != 2 or not is_list(item[1]):
        raise InvalidEdge(item)
    source, starts = item
    # Only names are looked up: a list cannot be, and no other value is the name of an input or a gate.
    if not is_name(source) or source not in names:
        raise UnknownSource(source)
    if not _are_indices(starts, count):
        raise InvalidEdge(item)


def _check_ways(inputs, gates, outs):
    """Raise an exception for a ring without a delay, and for a gate that is on no way from an input to an out."""
    ring = ring_without_delay(gates)
    if ring:
        raise Ring(ring)
    reached = ends_of_ways(inputs, gates)
    for name, _, _ in gates:
        if name not in reached:
            raise Dry(name)
    leading = beginnings_of_ways(gates, outs)
    for name, _, _ in gates:
        if name not in leading:
            raise Idle(name)
