"""Networks at work: with given functions and values, turn by turn, or with terms as values."""

from toldpast.errors import InvalidMeaning, InvalidTurn, InvalidValues, NoTurn, UnknownSource, UnknownSymbol
from toldpast.nets import require_net, symbols_of
from toldpast.termrows import TermTable, free_meaning
from toldpast.validation import is_integer, is_list
from toldpast.wiring import joined_edges, working_order

MOST_TURNS = 200


def answers(net, meaning, rows, *, first=0):
    """Return the answers of a network at each turn from a first one on, given the values of its inputs."""
    _require_run(net, meaning, rows)
    if not is_integer(first, 0, len(rows)):
        raise InvalidTurn(first)
    machine = Machine(net, meaning)
    told = [machine(values) for values in rows]
    return told[first:]


def turns(net, meaning, rows):
    """Yield the answers of a network, turn by turn, given the values of its inputs."""
    _require_run(net, meaning, rows)
    machine = Machine(net, meaning)
    for values in rows:
        yield machine(values)


def _require_run(net, meaning, rows):
    """Raise an exception if a network cannot be run with a meaning and with values for each turn."""
    _require_meaning(net, meaning)
    if not is_list(rows):
        raise InvalidValues(rows)
    for item in rows:
        _require_values(item, len(net.inputs()))


def _require_meaning(net, meaning):
    """Raise an exception if a value is no network, or another one is no meaning of its symbols."""
    require_net(net)
    if not isinstance(meaning, dict):
        raise InvalidMeaning(meaning)
    for name in symbols_of(net):
        if name not in meaning:
            raise UnknownSymbol(name)


def _require_values(values, count):
    """Raise InvalidValues if a value is not a list of as many items as there are inputs."""
    if not is_list(values) or len(values) != count:
        raise InvalidValues(values)


class Machine:
    """A network at work."""

    def __init__(self, net, meaning):
        _require_meaning(net, meaning)
        self._net = net
        self._functions = {name: meaning[name] for name in symbols_of(net)}
        inputs, gates, outs, terms = net.rows()
        edges = joined_edges(gates, outs)
        self._inputs = inputs
        self._sources = [source for source, _ in edges]
        self._steps = _steps_of(gates)
        self._out_edges = list(range(len(edges) - len(outs), len(edges)))
        values = _term_values(terms, self._functions)
        self._starts = [[values[start] for start in starts] for _, starts in edges]
        self.reset()

    def __call__(self, values):
        """Perform one turn with the values of the inputs, and return the answers of the outs."""
        _require_values(values, len(self._inputs))
        now = dict(zip(self._inputs, values))
        for name, symbol, numbers in self._steps:
            function = self._functions[symbol]
            now[name] = function(self._delivered(numbers, now))
        told = self._delivered(self._out_edges, now)
        for number, source in enumerate(self._sources):
            if self._queues[number]:
                self._queues[number] = self._queues[number][1:] + [now[source]]
        self._now = now
        self._count = self._count + 1
        return told

    def _delivered(self, numbers, now):
        """Return what the edges with some numbers deliver, given the values of their sources at this turn."""
        return [self._queues[number][0] if self._queues[number] else now[self._sources[number]] for number in numbers]

    @property
    def turn(self):
        """The number of turns performed."""
        return self._count

    def value_at(self, name):
        """Return the value of an input or a gate at the last turn."""
        if name not in self._net:
            raise UnknownSource(name)
        if self._count == 0:
            raise NoTurn()
        return self._now[name]

    def stored(self):
        """Return for each edge the values that its delays hold, in the order in which they will be delivered."""
        return [list(queue) for queue in self._queues]

    def copy(self):
        """Return a machine in the same state."""
        other = Machine(self._net, self._functions)
        other._starts = self._starts
        other._queues = self.stored()
        other._now = self._now
        other._count = self._count
        return other

    def reset(self):
        """Go back to the state before turn 0."""
        self._queues = [list(starts) for starts in self._starts]
        self._now = {}
        self._count = 0


def _steps_of(gates):
    """Return the gates in an order in which they can work, each with its symbol and the numbers of its edges."""
    steps = {}
    count = 0
    for name, symbol, edges in gates:
        steps[name] = (name, symbol, list(range(count, count + len(edges))))
        count = count + len(edges)
    return [steps[name] for name in working_order(gates)]


def _term_values(terms, functions):
    """Return the values of term rows."""
    values = []
    for symbol, numbers in terms:
        function = functions[symbol]
        values.append(function([values[number] for number in numbers]))
    return values


def free_run(net, count):
    """Run a network with terms as values; return rows of terms and samples, and the row of each answer."""
    require_net(net)
    if not is_integer(count, 0, MOST_TURNS):
        raise InvalidTurn(count)
    table = TermTable()
    told = free_answers(net, table, count)
    rows, places = table.used([number for numbers in told for number in numbers])
    return rows, [[places[number] for number in numbers] for numbers in told]


def free_answers(net, table, count):
    """Return the answers of a network at its first turns with terms as values: numbers of rows in a table."""
    machine = Machine(net, free_meaning(table, symbols_of(net)))
    inputs = net.inputs()
    return [machine([table.enter((name, turn)) for name in inputs]) for turn in range(count)]
