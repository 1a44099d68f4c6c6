"""The commands of sessions: lines of words, read into what they tell."""

from toldpast.books import read_book
from toldpast.validation import is_list, is_name, parse_integer, split_words

MOST_TURNS_LATE = 99

# What each word behind the first one tells.
FORMS = {
    "lag": ("name", "lag"),
    "advance": (),
    "deepen": (),
    "least": (),
    "canon": (),
    "rename": ("name", "name"),
    "start": ("reader", "number", "number", "term"),
    "delay": ("reader", "number", "number", "term"),
    "drop": ("reader", "number", "number"),
    "source": ("reader", "number", "name"),
    "insert": ("reader", "number", "name", "name"),
    "bypass": ("name",),
    "show": (),
    "alike": (),
    "settles": (),
    "range": ("name",),
    "past": ("name",),
    "count": (),
    "changes": (),
    "undo": (),
    "redo": (),
}


def command_of(line):
    """Return the first word of a command and a list of what its other words tell, or None if a value is no command."""
    words = split_words(line)
    if words is None or words[0] not in FORMS or len(words) != 1 + len(FORMS[words[0]]):
        return None
    values = []
    for kind, word in zip(FORMS[words[0]], words[1:]):
        read = READERS[kind]
        value = read(word)
        if value is None:
            return None
        values.append(value)
    return words[0], values


def _name_of(word):
    """Return a word that is a name, otherwise None."""
    return word if is_name(word) else None


def _lag_of(word):
    """Return the lag that a word represents, or None."""
    if word[0] != "-":
        return parse_integer(word, high=MOST_TURNS_LATE)
    lag = parse_integer(word[1:], low=1, high=MOST_TURNS_LATE)
    return None if lag is None else -lag


def _reader_of(word):
    """Return the name of a gate or the number of an out that a word represents, or None."""
    return word if is_name(word) else parse_integer(word)


def _number_of(word):
    """Return the number that a word represents, or None."""
    return parse_integer(word)


def _term_of(word):
    """Return term rows, the last one of which is the term that a word represents, or None."""
    book = read_book(word)
    if book is None or not all([is_list(numbers) for _, numbers in book.rows()]):
        return None
    return book.rows()


READERS = {"name": _name_of, "lag": _lag_of, "reader": _reader_of, "number": _number_of, "term": _term_of}
