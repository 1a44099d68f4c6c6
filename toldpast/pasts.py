"""The past values of gates: what they would have had before turn 0, as the starts behind them tell."""

from toldpast.termrows import arguments_of
from toldpast.wiring import working_order


class Pasts:
    """The past values of all gates of a network, as numbers of terms in a table."""

    def __init__(self, net, table):
        self._table = table
        starts = table.enter_terms(net.terms())
        _, gates, outs, _ = net.rows()
        self._forms = {name: (symbol, len(edges)) for name, symbol, edges in gates}
        self._reading = {name: [] for name in net.names()}
        for reader, _, edges in gates:
            self._note_readers([(reader, slot) for slot in range(len(edges))], edges, starts)
        self._note_readers([(number, 0) for number in range(len(outs))], outs, starts)
        self._values = {name: [] for name in net.names()}
        self._go_back(working_order(gates)[::-1])

    def _note_readers(self, places, edges, starts):
        """Note for the source of each edge to which place it leads, and its starts as numbers in the table."""
        for place, (source, indices) in zip(places, edges):
            if source in self._reading:
                self._reading[source].append((place, [starts[index] for index in indices]))

    def _go_back(self, growing):
        """Find the past values turn by turn; in the order of gates, those that read without delays come first."""
        turn = 1
        while growing:
            longer = []
            for name in growing:
                told = self._told(name, turn)
                if self._agree(name, told):
                    self._values[name].append(told[0])
                    longer.append(name)
            growing = longer
            turn = turn + 1

    def _told(self, name, turn):
        """Return what each edge to a reader tells as a past value; None stands for an edge that does not tell it."""
        return [self._told_by(place, starts, turn) for place, starts in self._reading[name]]

    def _told_by(self, place, starts, turn):
        """Return what one edge tells as a past value of its source, or None."""
        delays = len(starts)
        if turn <= delays:
            return starts[delays - turn]
        reader, slot = place
        if reader not in self._values or len(self._values[reader]) < turn - delays:
            return None
        return self.argument(reader, turn - delays, slot)

    def _agree(self, name, told):
        """Tell whether the edges of a gate all tell one term, which has the symbol of the gate."""
        return None not in told and told == told[:1] * len(told) and self._has_form(name, told[0])

    def _has_form(self, name, number):
        """Tell whether a term has the symbol of a gate, with as many arguments."""
        symbol, arguments = self._table.row(number)
        return self._forms[name] == (symbol, len(arguments))

    def argument(self, name, turn, slot):
        """Return the argument, in a slot, of a past value of a gate."""
        return arguments_of(self._table.row(self._values[name][turn - 1]))[slot]

    def depth(self, name):
        """Return the number of past values of a gate."""
        return len(self._values[name])

    def numbers_of(self, name):
        """Return the past values of a gate in order."""
        return list(self._values[name])

    def barred(self, name):
        """Return the kind and the edges that bar the next past value of a gate by themselves, or two empty values."""
        turn = self.depth(name) + 1
        told = {}
        for place, starts in self._reading[name]:
            number = self._told_by(place, starts, turn)
            if number is None and place[0] not in self._values:
                return "out", [place]
            if number is not None and not self._has_form(name, number):
                return "symbol", [place]
            if number is not None:
                told.setdefault(number, place)
        places = list(told.values())
        return ("unlike", places[:2]) if len(places) > 1 else ("", [])

    def silent_reader(self, name):
        """Return the first gate that reads a gate and lacks the past value that would tell the next one of this."""
        turn = self.depth(name) + 1
        silent = [place[0] for place, starts in self._reading[name] if self._told_by(place, starts, turn) is None]
        return silent[0]
