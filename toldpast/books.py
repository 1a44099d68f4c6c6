"""Books: terms and samples in numbered rows, each one once, however often it occurs in others."""

from toldpast.errors import InvalidBook, InvalidMeaning, InvalidName, InvalidPart, InvalidRow, InvalidString
from toldpast.errors import InvalidTurn, InvalidValues, TooLong, UnknownSample, UnknownSymbol, UnknownTerm
from toldpast.termrows import arguments_of, moved_row
from toldpast.validation import MOST_ARGUMENTS, is_integer, is_list, is_name, is_whole, parse_integer

LONGEST_TEXT = 400


class Book:
    """Terms and samples, which are numbered from 0 in the order in which they were added."""

    def __init__(self, rows=()):
        self._rows = []
        self._numbers = {}
        # A term written in full may be too large to be walked through, so this is found once for each row:
        # how many symbols and samples, how many levels, and how many characters its term has.
        self._sizes = []
        self._depths = []
        self._lengths = []
        if not is_list(rows):
            raise InvalidPart(rows)
        for item in rows:
            self._take(item)

    def _take(self, item):
        """Add a row of the list that the book is made of."""
        if not _has_row_form(item):
            raise InvalidRow(item)
        if not is_name(item[0]):
            raise InvalidName(item[0])
        if not self._has_all(arguments_of(item)) or _kept_row(item) in self._numbers:
            raise InvalidRow(item)
        self._entered(_kept_row(item))

    def _has(self, number):
        """Tell whether a value is the number of a row."""
        return is_integer(number, 0, len(self._rows) - 1)

    def _has_all(self, numbers):
        """Tell whether all items of a list are numbers of rows."""
        return all([self._has(number) for number in numbers])

    def _require(self, number):
        """Raise UnknownTerm if a value is not the number of a row."""
        if not self._has(number):
            raise UnknownTerm(number)

    def _entered(self, row):
        """Return the number of a row, which is added if the book does not contain it."""
        if row in self._numbers:
            return self._numbers[row]
        numbers = arguments_of(row)
        bare_text = _row_text(row, [""] * len(numbers))
        size = 1 + sum([self._sizes[number] for number in numbers])
        depth = 1 + max([self._depths[number] for number in numbers], default=0)
        length = len(bare_text) + sum([self._lengths[number] for number in numbers])
        self._numbers[row] = len(self._rows)
        self._rows.append(row)
        self._sizes.append(size)
        self._depths.append(depth)
        self._lengths.append(length)
        return self._numbers[row]

    def constant(self, symbol):
        """Return the number of a constant, which is added if it is new."""
        if not is_name(symbol):
            raise InvalidName(symbol)
        return self._entered((symbol, ()))

    def apply(self, symbol, numbers):
        """Return the number of a symbol with the rows of some numbers as arguments, which is added if it is new."""
        if not is_name(symbol):
            raise InvalidName(symbol)
        if not is_list(numbers) or not 1 <= len(numbers) <= MOST_ARGUMENTS:
            raise InvalidPart(numbers)
        for item in numbers:
            self._require(item)
        return self._entered((symbol, tuple(numbers)))

    def sample(self, name, turn):
        """Return the number of the sample of an input at a turn, which is added if it is new."""
        if not is_name(name):
            raise InvalidName(name)
        if not _is_turn(turn):
            raise InvalidTurn(turn)
        return self._entered((name, turn))

    def rows(self):
        """Return the rows as a new list."""
        return list(self._rows)

    def __len__(self):
        return len(self._rows)

    def __getitem__(self, number):
        self._require(number)
        return self._rows[number]

    def __iter__(self):
        raise TypeError("a book is not iterated over, its rows() are")

    def __contains__(self, value):
        if not _has_row_form(value) or not is_name(value[0]) or not self._has_all(arguments_of(value)):
            return False
        return _kept_row(value) in self._numbers

    def __eq__(self, other):
        return isinstance(other, Book) and self._rows == other._rows

    def copied(self):
        """Return a new book with the same rows."""
        return Book(self.rows())

    def parts(self, number):
        """Return the numbers of the parts of a row in ascending order."""
        self._require(number)
        found = {number: True}
        waiting = [number]
        while waiting:
            row = self._rows[waiting.pop()]
            for part in arguments_of(row):
                if part not in found:
                    found[part] = True
                    waiting.append(part)
        return sorted(found)

    def size(self, number):
        """Return how many symbols and samples a term has when it is written in full."""
        self._require(number)
        return self._sizes[number]

    def depth(self, number):
        """Return the greatest number of symbols and samples of a term that lie one within another."""
        self._require(number)
        return self._depths[number]

    def text(self, number):
        """Return a term as a string of at most 400 characters."""
        self._require(number)
        if self._lengths[number] > LONGEST_TEXT:
            raise TooLong(number)
        texts = {}
        for part in self.parts(number):
            row = self._rows[part]
            texts[part] = _row_text(row, [texts[argument] for argument in arguments_of(row)])
        return texts[number]

    def read(self, text):
        """Return the number of the term that a string represents, whose new parts are added."""
        # The term is read into a book of its own first, so that a string that is refused adds nothing here.
        found = read_book(text)
        if found is None:
            raise InvalidString(text)
        return self.carry(found, len(found) - 1)

    def evaluate(self, number, meaning, *, samples=None):
        """Return the value of a term with a meaning and the values of the inputs."""
        self._require(number)
        if not isinstance(meaning, dict):
            raise InvalidMeaning(meaning)
        if samples is not None and not _is_dict_of_lists(samples):
            raise InvalidValues(samples)
        parts = self.parts(number)
        given = {} if samples is None else samples
        for part in parts:
            _require_given(self._rows[part], meaning, given)
        values = {}
        for part in parts:
            values[part] = _row_value(self._rows[part], meaning, given, values)
        return values[number]

    def carry(self, other, number):
        """Return the number of a term of another book, whose new parts are added."""
        if not isinstance(other, Book):
            raise InvalidBook(other)
        parts = other.parts(number)
        places = {}
        for part in parts:
            places[part] = self._entered(moved_row(other._rows[part], places))
        return places[number]

    def differ(self, one, other):
        """Return the slots that lead to the first place where two terms part, or None if they are equal."""
        self._require(one)
        self._require(other)
        if one == other:
            return None
        slots = []
        arguments, others = self._compared(one, other)
        while arguments:
            slot = _first_unlike(arguments, others)
            slots.append(slot)
            arguments, others = self._compared(arguments[slot], others[slot])
        return slots

    def _compared(self, one, other):
        """Return the arguments of two terms if they have the same symbol, otherwise nothing twice."""
        row, other_row = self._rows[one], self._rows[other]
        arguments, others = arguments_of(row), arguments_of(other_row)
        if row[0] != other_row[0] or len(arguments) != len(others):
            return (), ()
        return arguments, others


def same_term(book, number, other, other_number):
    """Tell whether two terms of two books are equal."""
    _require_term(book, number)
    _require_term(other, other_number)
    places = {}
    for part in book.parts(number):
        row = moved_row(book._rows[part], places)
        if row not in other._numbers:
            return False
        places[part] = other._numbers[row]
    return places[number] == other_number


def _require_term(book, number):
    """Raise an exception if a value is not a book, or has no row with a number."""
    if not isinstance(book, Book):
        raise InvalidBook(book)
    book._require(number)


def _is_turn(value):
    """Tell whether a value is an integer from 0 on."""
    return is_whole(value) and value >= 0


def _has_row_form(value):
    """Tell whether a value is a pair, the second item of which may stand in a row."""
    if not is_list(value) or len(value) != 2:
        return False
    if is_list(value[1]):
        return len(value[1]) <= MOST_ARGUMENTS
    return _is_turn(value[1])


def _kept_row(row):
    """Return a row as a book keeps it, with tuples in place of lists."""
    last = tuple(row[1]) if is_list(row[1]) else row[1]
    return row[0], last


def _row_text(row, texts):
    """Return a term as a string, given the texts of its arguments."""
    name, last = row
    if not is_list(last):
        return f"{name}@{last}"
    if not last:
        return name
    inner = ",".join(texts)
    return f"{name}({inner})"


def _first_unlike(one, other):
    """Return the first index at which two lists of numbers differ."""
    index = 0
    while one[index] == other[index]:
        index += 1
    return index


def _is_dict_of_lists(value):
    """Tell whether a value is a dict whose values are lists."""
    return isinstance(value, dict) and all([is_list(item) for item in value.values()])


def _require_given(row, meaning, samples):
    """Raise an exception if there is no function for a symbol, or no value for a sample."""
    name, last = row
    if is_list(last):
        if name not in meaning:
            raise UnknownSymbol(name)
    elif name not in samples or last >= len(samples[name]):
        raise UnknownSample(name, last)


def _row_value(row, meaning, samples, values):
    """Return the value of a row, given the values of the rows before it."""
    name, last = row
    if not is_list(last):
        return samples[name][last]
    function = meaning[name]
    return function([values[number] for number in last])


def read_book(text):
    """Return a book whose last row is the term that a value represents as a string, or None if it represents none."""
    if not isinstance(text, str) or len(text) > LONGEST_TEXT:
        return None
    book = Book()
    opened = []
    # The number of the term that has just ended, or None where a term must begin.
    number = None
    for token in _tokens(text):
        if number is None and token.endswith("("):
            opened.append((token[:-1], []))
        elif number is None:
            number = _read_leaf(book, token)
            if number is None:
                return None
        elif not opened or token not in (",", ")"):
            return None
        else:
            symbol, numbers = opened[-1]
            numbers.append(number)
            number = None
            if token == ")":
                opened.pop()
                if not is_name(symbol) or len(numbers) > MOST_ARGUMENTS:
                    return None
                number = book.apply(symbol, numbers)
    return None if opened or number is None else book


def _read_leaf(book, word):
    """Return the number of the constant or the sample that a word represents, or None if there is none."""
    if is_name(word):
        return book.constant(word)
    name, _, digits = word.partition("@")
    turn = parse_integer(digits)
    if not is_name(name) or turn is None:
        return None
    return book.sample(name, turn)


def _tokens(text):
    """Split a text behind each opening parenthesis, and before and behind each other mark."""
    tokens = [""]
    for character in text:
        if character in ",)":
            tokens.extend([character, ""])
        else:
            tokens[-1] = tokens[-1] + character
            if character == "(":
                tokens.append("")
    return [token for token in tokens if token]
