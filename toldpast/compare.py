"""Networks compared for every meaning and all values of the inputs, from the first turn on."""

from toldpast.errors import InvalidName, InvalidPart, InvalidRow
from toldpast.nets import require_pair, symbols_of
from toldpast.pairs import Pairs
from toldpast.runs import free_answers
from toldpast.termrows import TermTable
from toldpast.validation import MOST_ARGUMENTS, is_list, is_name, is_whole, ordered_keys


def alike(one, other):
    """Tell whether two networks are alike."""
    return first_unlike(one, other) is None


def first_unlike(one, other):
    """Return the first turn at which answers differ and the first out that differs then, or None if there is none."""
    require_pair(one, other)
    return Pairs(one, other).parting()


def difference(one, other):
    """Return the first turn and out at which answers differ, and the place in these answers, or None."""
    require_pair(one, other)
    pairs = Pairs(one, other)
    found = pairs.parting()
    if found is None:
        return None
    turn, out = found
    slots, head, other_head = pairs.place(turn, out)
    return turn, out, slots, head, other_head


def settles(one, other):
    """Return the smallest turn from which on two networks give the same answers, or None if there is none."""
    require_pair(one, other)
    return Pairs(one, other).settled()


def parting(one, other):
    """Return the first turn and out at which answers differ, with tables and samples that show it, or None."""
    found = first_unlike(one, other)
    if found is None:
        return None
    turn, out = found
    table = TermTable()
    ends = [free_answers(net, table, turn + 1)[turn][out] for net in (one, other)]
    # The value of each term and sample is its place among the parts of the two answers.
    rows, _ = table.used(ends)
    tables = {symbol: [] for symbol in symbols_of(one) + symbols_of(other)}
    samples = {name: [0] * (turn + 1) for name in one.inputs()}
    for number, (name, last) in enumerate(rows):
        if is_list(last):
            tables[name].append((last, number))
        else:
            samples[name][last] = number
    return turn, out, tables, samples


def meaning_of(tables):
    """Return the meaning whose functions look their values up in tables."""
    if not isinstance(tables, dict):
        raise InvalidPart(tables)
    for name in ordered_keys(tables):
        _require_table(name, tables[name])
    return {name: _function_of(tables[name]) for name in tables}


def _require_table(name, rows):
    """Raise an exception if a key and its value are not a name and a list of arguments and values."""
    if not is_name(name):
        raise InvalidName(name)
    if not is_list(rows):
        raise InvalidPart(rows)
    for item in rows:
        if not _is_table_row(item):
            raise InvalidRow(item)


def _is_table_row(value):
    """Tell whether a value is a pair of a list of at most three integers and an integer."""
    if not is_list(value) or len(value) != 2 or not is_list(value[0]):
        return False
    return len(value[0]) <= MOST_ARGUMENTS and _are_integers(value[0]) and is_whole(value[1])


def _are_integers(values):
    """Tell whether all items of a list are integers."""
    return all([is_whole(value) for value in values])


def _function_of(rows):
    """Return the function that tells the value of the first row with some arguments, and 0 if there is none."""
    values = {}
    for arguments, value in rows:
        values.setdefault(tuple(arguments), value)
    return lambda items: values.get(tuple(items), 0) if _are_integers(items) else 0
