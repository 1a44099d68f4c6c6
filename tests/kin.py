"""Networks that are alike to a network, or nearly so."""

import functools
import random

from model import many_nets, random_edge, random_net
from toldpast.errors import Idle, NetError
from toldpast.least import advanced
from toldpast.nets import Net, renamed


def ring_net(start, symbol="f"):
    return Net(["x"], [("g", symbol, [("x", []), ("g", [0])])], [("g", [])], [(start, ())])


def wire(starts, source="x"):
    """A network without gates, whose out has constants as starts."""
    return Net(["x", "y"], [], [(source, list(range(len(starts))))], [(letter, ()) for letter in starts])


def chain_net(words, width=2):
    """A chain of gates, each with edges to the one before and to the input; a word gives the starts of an edge."""
    gates = []
    for n, word in enumerate(words[:-1]):
        edges = [("x" if n == 0 else f"g{n - 1}", ["abc".index(letter) for letter in word])] + [("x", [])] * (width - 1)
        gates.append((f"g{n}", "f", edges))
    outs = [(gates[-1][0], ["abc".index(letter) for letter in words[-1]])]
    return Net(["x"], gates, outs, [(letter, ()) for letter in "abc"])


def wheel_net(word, delays=30):
    """A ring of gates, one for each letter of a word, which is the last start of the edge that leads to it."""
    many = len(word)
    gates = []
    for n, letter in enumerate(word):
        gates.append((f"g{n}", "f", [("x", []), (f"g{(n + 1) % many}", [0] * (delays - 1) + ["ab".index(letter)])]))
    return Net(["x"], gates, [("g0", [])], [("a", ()), ("b", ())])


def shuffled(net, seed):
    """A network that is alike: its gates in another order, with other names, and some of them twice."""
    chance = random.Random(seed)
    inputs, gates, outs, terms = net.rows()
    gates = list(gates)
    chance.shuffle(gates)
    names = {name: "zyxwvuts"[place] + str(chance.randrange(9)) for place, name in enumerate(net.names())}
    net = renamed(Net(inputs, gates, outs, terms), names)
    inputs, gates, outs, terms = net.rows()
    for number, (source, starts) in enumerate(outs):
        if len(net) < 8 and source not in inputs and chance.randrange(2):
            net = split(net, number)
    return net


def split(net, number):
    """The network with a second gate for one out, if the first one has other readers."""
    inputs, gates, outs, terms = net.rows()
    source, starts = outs[number]
    outs[number] = (f"k{number}", starts)
    try:
        return Net(inputs, [*gates, (f"k{number}", *net[source])], outs, terms)
    except Idle:
        return net


def hastened(net):
    """The network with each gate one turn early, one after the other, that has a delay on each of its edges."""
    for name in net.names():
        inputs, gates, outs, terms = net.rows()
        symbol, edges = net[name]
        if all(starts for _, starts in edges):
            # The value of the gate at turn 0 is stored behind it, and its own edges begin a turn later.
            terms.append((symbol, tuple(starts[0] for _, starts in edges)))

            def behind(edge):
                return (edge[0], edge[1] + [len(terms) - 1]) if edge[0] == name else edge
            moved = []
            for gate, sign, inner in gates:
                inner = [behind(edge) for edge in inner]
                moved.append((gate, sign, [(s, starts[1:]) for s, starts in inner] if gate == name else inner))
            net = Net(inputs, moved, [behind(edge) for edge in outs], terms)
    return net


def mutated(net, seed):
    """The network with one thing changed by chance: a start, a delay, a source, a symbol, an out, or an order."""
    chance = random.Random(seed)
    while True:
        inputs, gates, outs, terms = net.rows()
        terms.append((chance.choice("fgab"), ()))
        places = [(edges, slot) for _, _, edges in gates for slot in range(len(edges))]
        places += [(outs, number) for number in range(len(outs))]
        kind = chance.choice(["start", "start", "start", "delay", "delay", "source", "symbol", "swap", "edge"])
        if kind == "symbol" and gates:
            place = chance.randrange(len(gates))
            gates[place] = (gates[place][0], chance.choice("fgh"), gates[place][2])
        elif places:
            edges, slot = chance.choice(places)
            source, starts = edges[slot]
            if kind == "start" and starts:
                starts[chance.randrange(len(starts))] = chance.randrange(len(terms))
            elif kind == "delay" and starts and chance.randrange(2):
                starts.pop(chance.randrange(len(starts)))
            elif kind == "delay":
                starts.insert(chance.randrange(len(starts) + 1), chance.randrange(len(terms)))
            elif kind == "source":
                edges[slot] = (chance.choice(inputs + [gate[0] for gate in gates]), starts)
            elif kind == "swap":
                edges.reverse()
            elif kind == "edge":
                edges[slot] = random_edge(chance, inputs + [gate[0] for gate in gates], terms, 3)
        try:
            return Net(inputs, gates, outs, terms)
        except NetError:
            pass


def ringless_pair(seed):
    """Two networks without rings that differ in one start, if at all."""
    chance = random.Random(seed)
    terms = [(letter, ()) for letter in "abc"]
    names = ["p", "q", "r", "s"]
    gates = []
    for place, name in enumerate(names):
        edges = [random_edge(chance, names[place - 1:place] or ["x"], terms, 4) for _ in range(1 + chance.randrange(2))]
        gates.append((name, chance.choice("fg"), edges + [random_edge(chance, ["x"] + names[:place], terms, 4)]))
    outs = [random_edge(chance, names[3:], terms, 4), random_edge(chance, ["x"] + names, terms, 4)]
    net = Net(["x"], gates, outs, terms)
    lists = [starts for _, _, edges in gates for _, starts in edges if starts] + [starts for _, starts in outs if starts]
    if lists:
        starts = chance.choice(lists)
        starts[chance.randrange(len(starts))] = chance.randrange(3)
    return net, Net(["x"], gates, outs, terms)


@functools.cache
def kin_pairs():
    """Pairs of networks with the same inputs and as many outs: some alike, some nearly so, and some quite unlike."""
    found = []
    for seed, net in enumerate(many_nets()):
        if net.outs():
            found.append((net, shuffled(net, seed)))
            found.append((net, mutated(net, seed)))
            found.append((shuffled(net, seed + 1), mutated(hastened(net), seed)))
    found += [ringless_pair(seed) for seed in range(60)]
    for seed in range(150):
        one = random_net(seed, symbols="f", longest=1, most=3, inputs=["x"])
        other = random_net(seed + 1000, symbols="f", longest=1, most=3, inputs=["x"])
        inputs, gates, outs, terms = other.rows()
        outs = (outs * 4)[:len(one.outs())]
        try:
            found.append((one, Net(inputs, gates, outs, terms)))
        except Idle:
            pass
    return found


@functools.cache
def deep_nets():
    """Networks in which many gates have past values, and the ways back end for each kind of reason."""
    found = []
    for seed, net in enumerate(many_nets()):
        found += [net, advanced(net), hastened(net)]
        found += [mutated(form, seed + place) for place, form in enumerate((advanced(net), hastened(net)))
                  if form != net]
    return found
