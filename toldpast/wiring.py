"""How gates are joined: in which order they can work, which form a ring, and where ways lead.

Gates are tuples (name, symbol, edges), and edges are tuples (source, starts).
"""


def joined_edges(gates, outs):
    """Return all edges: those of the gates in the order of gates and slots, then those of the outs."""
    found = []
    for _, _, edges in gates:
        found.extend(edges)
    return found + list(outs)


def all_starts(gates, outs):
    """Return the starts of all edges, edge by edge."""
    found = []
    for _, starts in joined_edges(gates, outs):
        found.extend(starts)
    return found


def working_order(gates):
    """Return the names of the gates, each one behind the sources of its edges without delays.

    Gates that are on a ring without delays, or behind one, are left out.
    """
    direct = _direct_sources(gates)
    placed = {}
    waiting = list(direct)
    many = -1
    while len(placed) > many:
        many = len(placed)
        for name in waiting:
            if all([source in placed for source in direct[name]]):
                placed[name] = True
        waiting = [name for name in waiting if name not in placed]
    return list(placed)


def _direct_sources(gates):
    """Return for each gate those of its sources that are gates and that reach it without a delay."""
    names = {name: True for name, _, _ in gates}
    found = {}
    for name, _, edges in gates:
        found[name] = [source for source, starts in edges if source in names and not starts]
    return found


def ring_without_delay(gates):
    """Return the names of the gates of a ring without delays, each one a source of the next, or an empty list."""
    working = {name: True for name in working_order(gates)}
    stuck = [name for name, _, _ in gates if name not in working]
    if not stuck:
        return []
    # Each gate that is stuck has a source that is stuck too, so the walk back must come round.
    direct = _direct_sources(gates)
    walk = []
    name = stuck[0]
    while name not in walk:
        walk.append(name)
        sources = [source for source in direct[name] if source not in working]
        name = sources[0]
    return walk[walk.index(name):][::-1]


def ends_of_ways(inputs, gates):
    """Return a dict of True for the inputs and for all gates that a way from an input leads to."""
    readers = {}
    for name, _, edges in gates:
        for source, _ in edges:
            readers.setdefault(source, []).append(name)
    return _spread(inputs, readers)


def beginnings_of_ways(gates, outs):
    """Return a dict of True for all inputs and gates from which a way leads to an out."""
    sources = {}
    for name, _, edges in gates:
        sources[name] = [source for source, _ in edges]
    return _spread([source for source, _ in outs], sources)


def _spread(names, following):
    """Return a dict of True for some names and for all that follow them."""
    found = {name: True for name in names}
    waiting = list(found)
    while waiting:
        name = waiting.pop()
        for other in following.get(name, []):
            if other not in found:
                found[other] = True
                waiting.append(other)
    return found
