"""The commands that tell something of the network of a session, in a list of strings."""

from toldpast.books import Book
from toldpast.compare import first_unlike, settles
from toldpast.depths import past
from toldpast.errors import TooLong
from toldpast.moves import ranges
from toldpast.nets import are_comparable, require_gate
from toldpast.nettext import text_of
from toldpast.wiring import joined_edges


def told(net, first, word, values):
    """Return the answer to a question, given the network as it is, the first one, and what the words tell."""
    question = QUESTIONS[word]
    return question(net, first, *values)


def _show(net, _):
    """Tell the lines of the network as a text."""
    text = text_of(net)
    return text.split("\n") if text else []


def _alike(net, first):
    """Tell whether the network is alike to the first one."""
    if not are_comparable(first, net):
        return ["other"]
    found = first_unlike(first, net)
    if found is None:
        return ["alike"]
    turn, out = found
    return [f"unlike {turn} {out}"]


def _settles(net, first):
    """Tell from which turn on the network gives the answers of the first one."""
    if not are_comparable(first, net):
        return ["other"]
    turn = settles(first, net)
    return ["never" if turn is None else str(turn)]


def _range(net, _, gate):
    """Tell the smallest and the greatest lag of a gate."""
    require_gate(net, gate)
    low, high = ranges(net)[gate]
    return [f"{low} {high}"]


def _past(net, _, gate):
    """Tell the past values of a gate."""
    rows, numbers = past(net, gate)
    book = Book(rows)
    return [_text_or_dots(book, number) for number in numbers]


def _text_or_dots(book, number):
    """Return a term as a string, or three dots if it is too long."""
    try:
        return book.text(number)
    except TooLong:
        return "..."


def _count(net, _):
    """Tell how many gates, delays and term rows there are."""
    _, gates, outs, terms = net.rows()
    delays = sum([len(starts) for _, starts in joined_edges(gates, outs)])
    return [f"{len(gates)} {delays} {len(terms)}"]


QUESTIONS = {
    "show": _show,
    "alike": _alike,
    "settles": _settles,
    "range": _range,
    "past": _past,
    "count": _count,
}
