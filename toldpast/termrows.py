"""Rows of terms and samples: each one once, and only those in use, in the order of their first use.

A term may be far too large to be written in full, so nothing here goes through a term more than once for each row,
and nothing recurses over its levels.
"""

from toldpast.validation import is_list


class TermTable:
    """Rows of terms and samples, each one once, so that equal terms have the same number."""

    def __init__(self):
        self._listed = []
        self._places = {}

    def enter(self, row):
        """Return the number of a row, which is added if it is new."""
        if row not in self._places:
            self._places[row] = len(self._listed)
            self._listed.append(row)
        return self._places[row]

    def row(self, number):
        """Return the row with a number."""
        return self._listed[number]

    def enter_terms(self, terms):
        """Return the numbers of the rows of a list, whose arguments are indices of earlier rows of that list."""
        numbers = []
        for symbol, arguments in terms:
            numbers.append(self.enter((symbol, tuple([numbers[index] for index in arguments]))))
        return numbers

    def used(self, numbers):
        """Return the rows that some numbers need, arguments first, and a dict from old numbers to new ones."""
        kept = []
        places = {}
        for number in numbers:
            waiting = [] if number in places else [number]
            while waiting:
                row = self._listed[waiting[-1]]
                missing = [part for part in arguments_of(row) if part not in places]
                if missing:
                    waiting.append(missing[0])
                else:
                    places[waiting.pop()] = len(kept)
                    kept.append(moved_row(row, places))
        return kept, places


def arguments_of(row):
    """Return the numbers of the arguments of a row; a sample has none."""
    return row[1] if is_list(row[1]) else ()


def moved_row(row, places):
    """Return a row with other numbers for its arguments."""
    if not is_list(row[1]):
        return row
    return row[0], tuple([places[number] for number in row[1]])


def shifted_rows(terms, shift):
    """Return term rows as they stand behind some other rows of a list."""
    return [(symbol, tuple([number + shift for number in numbers])) for symbol, numbers in terms]


def free_meaning(table, symbols):
    """Return the free meaning of some symbols: values are numbers of terms in a table."""
    return {symbol: _builder(table, symbol) for symbol in symbols}


def _builder(table, symbol):
    """Return the function that applies a symbol to terms."""
    return lambda numbers: table.enter((symbol, tuple(numbers)))
