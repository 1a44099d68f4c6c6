"""Networks as texts: a line for each input, term row, gate and out."""

from toldpast.errors import DuplicateTerm, InvalidInteger, InvalidLine, InvalidName, InvalidPart, InvalidString
from toldpast.errors import UnknownTerm
from toldpast.nets import Net, require_net
from toldpast.validation import MOST_ARGUMENTS, is_integer, is_list, is_name, parse_integer, split_words

LARGEST_NUMBER = 999999
LARGEST_FIRST = 999
LARGEST_STEP = 99


def edge_text(source, starts):
    """Return an edge as a word: its source, and its starts behind a colon."""
    if not is_name(source):
        raise InvalidName(source)
    if not is_list(starts):
        raise InvalidPart(starts)
    for item in starts:
        if not is_integer(item, 0, LARGEST_NUMBER):
            raise InvalidInteger(item)
    return _edge_word(source, starts)


def _edge_word(source, numbers):
    """Return an edge as a word, however large the numbers of its starts are."""
    if not numbers:
        return source
    listed = ",".join([str(number) for number in numbers])
    return f"{source}:{listed}"


def edge_of(word):
    """Return the source and the starts that a word represents, or None."""
    if not isinstance(word, str):
        return None
    source, colon, listed = word.partition(":")
    if not is_name(source):
        return None
    if not colon:
        return source, []
    starts = _numbers_of(split_words(listed, separator=","))
    return None if starts is None else (source, starts)


def _numbers_of(words):
    """Return the integers that words represent, or None if there are no words or one of them represents none."""
    if words is None:
        return None
    numbers = [parse_integer(word) for word in words]
    return None if None in numbers else numbers


def text_of(net, *, first=0, step=1):
    """Return a network as a string of lines; its terms are numbered from first on, in steps."""
    require_net(net)
    if not is_integer(first, 0, LARGEST_FIRST):
        raise InvalidInteger(first)
    if not is_integer(step, 1, LARGEST_STEP):
        raise InvalidInteger(step)
    inputs, gates, outs, terms = net.rows()
    numbers = [first + step * index for index in range(len(terms))]
    lines = [f"input {name}" for name in inputs]
    for number, row in zip(numbers, terms):
        arguments = [str(numbers[index]) for index in row[1]]
        lines.append(" ".join(["term", str(number), row[0], *arguments]))
    for name, symbol, edges in gates:
        lines.append(" ".join(["gate", name, symbol, *_edge_words(edges, numbers)]))
    for word in _edge_words(outs, numbers):
        lines.append(f"out {word}")
    return "\n".join(lines)


def _edge_words(edges, numbers):
    """Return edges as words, with numbers in place of the indices of the starts."""
    return [_edge_word(source, [numbers[start] for start in starts]) for source, starts in edges]


def net_of(text):
    """Return the network that a string represents."""
    if not isinstance(text, str):
        raise InvalidString(text)
    found = {"input": [], "term": [], "gate": [], "out": []}
    for index, line in enumerate(_lines_of(text)):
        kind, item = _read_line(line)
        if item is None:
            raise InvalidLine(index)
        found[kind].append(item)
    terms, places = _read_terms(found["term"])
    gates = [(name, symbol, _placed_edges(edges, places)) for name, symbol, edges in found["gate"]]
    return Net(found["input"], gates, _placed_edges(found["out"], places), terms)


def _lines_of(text):
    """Return the lines of a string; the empty one has none."""
    return text.split("\n") if text else []


def _read_line(line):
    """Return the kind of a line and what it tells; this is None if the line has none of the forms."""
    words = split_words(line)
    if words is None:
        return "", None
    kind, *rest = words
    if kind == "input":
        return kind, _read_input(rest)
    if kind == "term":
        return kind, _read_term(rest)
    if kind == "gate":
        return kind, _read_gate(rest)
    if kind == "out":
        return kind, _read_out(rest)
    return kind, None


def _read_input(words):
    """Return the name in an input line, or None."""
    return words[0] if len(words) == 1 and is_name(words[0]) else None


def _read_term(words):
    """Return the number, the symbol and the numbers of the arguments in a term line, or None."""
    if not 2 <= len(words) <= 2 + MOST_ARGUMENTS or not is_name(words[1]):
        return None
    number = parse_integer(words[0])
    arguments = _numbers_of(words[2:])
    return None if number is None or arguments is None else (number, words[1], arguments)


def _read_gate(words):
    """Return the name, the symbol and the edges in a gate line, or None."""
    if not 3 <= len(words) <= 2 + MOST_ARGUMENTS or not is_name(words[0]) or not is_name(words[1]):
        return None
    edges = [edge_of(word) for word in words[2:]]
    return None if None in edges else (words[0], words[1], edges)


def _read_out(words):
    """Return the edge in an out line, or None."""
    return edge_of(words[0]) if len(words) == 1 else None


def _read_terms(lines):
    """Return the term rows that term lines tell, and the index of each row by the number of its line."""
    terms = []
    places = {}
    for number, symbol, arguments in lines:
        if number in places:
            raise DuplicateTerm(number)
        terms.append((symbol, _placed(arguments, places)))
        places[number] = len(places)
    return terms, places


def _placed(numbers, places):
    """Return the indices of the rows that have some numbers; raise UnknownTerm for the first that no row has."""
    for number in numbers:
        if number not in places:
            raise UnknownTerm(number)
    return [places[number] for number in numbers]


def _placed_edges(edges, places):
    """Return edges with the indices of their starts in place of the numbers."""
    return [(source, _placed(starts, places)) for source, starts in edges]
