"""Networks told by their definition [3], in another way than the package tells it, and many networks to try it on."""

import random

from toldpast.errors import NetError
from toldpast.nets import Net

PRIME = 1000003


class Model:
    """What a network does with the free meaning; equal terms and samples are one number."""

    def __init__(self, net, numbers=None):
        self.inputs, gates, self.outs, self.terms = net.rows()
        self.gates = {name: (symbol, edges) for name, symbol, edges in gates}
        self.numbers = {} if numbers is None else numbers
        self.known = {}
        self.starts = []
        for symbol, places in self.terms:
            self.starts.append(self.number(symbol, tuple(self.starts[n] for n in places)))

    def number(self, head, below):
        return self.numbers.setdefault((head, below), len(self.numbers))

    def delivered(self, edge, turn):
        source, starts = edge
        if turn < len(starts):
            return self.starts[starts[turn]]
        return self.value(source, turn - len(starts))

    def value(self, name, turn):
        # Asked in the order of the turns, this goes no deeper than there are gates.
        if name in self.inputs:
            return self.number("sample", (name, turn))
        if (name, turn) not in self.known:
            symbol, edges = self.gates[name]
            self.known[name, turn] = self.number(symbol, tuple(self.delivered(edge, turn) for edge in edges))
        return self.known[name, turn]

    def answers(self, count):
        found = []
        for turn in range(count):
            for name in self.gates:
                self.value(name, turn)
            found.append([self.delivered(edge, turn) for edge in self.outs])
        return found


def answers_of(nets, count):
    """The free answers of several networks, numbered so that equal terms have one number in all of them."""
    numbers = {}
    return [Model(net, numbers).answers(count) for net in nets]


def mixing(symbol):
    """A function that gives other values for nearly all other arguments, and minds their order and their number."""
    weight = sum((place + 7) * ord(letter) ** 3 for place, letter in enumerate(symbol))

    def mixed(items):
        assert items.__class__ is list
        value = weight + len(items)
        for item in items:
            value = (value * 7919 + item * item + 3 * item + 11) % PRIME
        return value
    return mixed


def mixing_meaning(net):
    """A meaning with which two networks that are not alike hardly ever give the same answers."""
    inputs, gates, outs, terms = net.rows()
    return {symbol: mixing(symbol) for symbol in [row[0] for row in terms] + [gate[1] for gate in gates]}


def given_rows(net, count, seed=1):
    """Values of the inputs for some turns."""
    chance = random.Random(seed)
    return [[chance.randrange(PRIME) for _ in net.inputs()] for _ in range(count)]


def random_terms(chance, symbols, count):
    terms = []
    for index in range(count):
        many = chance.randrange(min(index, 3) + 1)
        terms.append((chance.choice(symbols), tuple(chance.randrange(index) for _ in range(many))))
    return terms


def random_edge(chance, sources, terms, longest):
    many = chance.choice([0, 0, 1, 1, 2, chance.randrange(longest + 1)]) if terms else 0
    return (chance.choice(sources), [chance.randrange(len(terms)) for _ in range(many)])


def random_net(seed, symbols="fgab", longest=3, most=6, inputs=None):
    """A network that is made by chance, but the same one for equal arguments."""
    chance = random.Random(seed)
    many = chance.randrange(most + 1)
    while True:
        given = inputs or chance.sample(["x", "y", "g0", "z9"], chance.randrange(1, 4))
        try:
            return tried_net(chance, symbols, longest, many, given)
        except NetError:
            pass


def tried_net(chance, symbols, longest, many, inputs):
    """A network with some gates, or one of the exceptions of [31]."""
    names = chance.sample(["p", "q", "g1", "g2", "r", "s", "t", "u"], many)
    terms = random_terms(chance, symbols, chance.randrange(1, 6))
    gates = []
    for index, name in enumerate(names):
        edges = [random_edge(chance, inputs + names[:index + 1], terms, longest)]
        for _ in range(chance.randrange(3)):
            edges.append(random_edge(chance, inputs + names, terms, longest))
        gates.append((name, chance.choice(symbols), edges))
    outs = [random_edge(chance, names[-2:] + inputs, terms, longest) for _ in range(chance.randrange(1, 5))]
    return Net(inputs, gates, outs, terms)


def doubled_net(seed):
    """A network in which each gate stands twice, and readers take one or the other of the two by chance."""
    chance = random.Random(seed)
    inputs, gates, outs, terms = random_net(seed, symbols="fg", most=4).rows()

    def either(edges):
        return [(source + chance.choice(["", "2"]) if source not in inputs else source, starts)
                for source, starts in edges]
    twice = [(name + end, symbol, either(edges)) for name, symbol, edges in gates for end in ("", "2")]
    # A gate that has lost its last reader gets an out.
    more = [(name, []) for name, _, _ in twice]
    return Net(inputs, twice, either(outs) + more, terms)


def rings_net(many):
    """Some equal rings of two gates that feed themselves only by each other, and an input that starts them."""
    gates = []
    outs = []
    for index in range(many):
        gates.append((f"a{index}", "f", [(f"b{index}", [0]), ("x", [])]))
        gates.append((f"b{index}", "f", [(f"a{index}", [0]), ("x", [])]))
        outs.append((f"a{index}", []))
    return Net(["x"], gates, outs, [("c", ())])


def early_ring_net(delays):
    """A ring of gates that the input reaches late, with other starts on each edge."""
    terms = [("a", ()), ("b", ()), ("h", (0,)), ("h", (1,)), ("k", (2, 3, 0))]
    gates = [
        ("p", "f", [("x", [4] * delays), ("r", [0, 3])]),
        ("q", "f", [("p", [1]), ("p", [])]),
        ("r", "g", [("q", [2])]),
    ]
    return Net(["x", "y"], gates, [("r", []), ("p", [0, 1, 2]), ("y", [4, 4]), ("q", [])], terms)


def many_nets():
    """Networks of all kinds."""
    found = [random_net(seed) for seed in range(60)]
    found += [random_net(seed, symbols="f", longest=6) for seed in range(60, 90)]
    found += [doubled_net(seed) for seed in range(30)]
    found += [rings_net(many) for many in (1, 2, 3)]
    found += [early_ring_net(delays) for delays in (0, 1, 2, 5)]
    found += [Net([], [], []), Net(["x"], [], [("x", [])]), Net(["x"], [], [("x", [0] * 30)], [("a", ())])]
    return found
