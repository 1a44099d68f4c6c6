"""Kinds of values that every part of the package asks for: integers, names, lists, term rows and words."""

LETTERS = "abcdefghijklmnopqrstuvwxyz"
DIGITS = "0123456789"
LONGEST_NAME = 8
MOST_DIGITS = 30
MOST_ARGUMENTS = 3


def is_integer(value, low, high):
    """Tell whether a value is an integer from low to high."""
    return is_whole(value) and low <= value <= high


def is_whole(value):
    """Tell whether a value is an integer of any size."""
    # True and False are integers for Python, but not for the document.
    return isinstance(value, int) and not isinstance(value, bool)


def is_name(value):
    """Tell whether a value is a name: a letter, and at most seven letters and digits behind it."""
    if not isinstance(value, str) or not 1 <= len(value) <= LONGEST_NAME:
        return False
    return value[0] in LETTERS and all([character in LETTERS or character in DIGITS for character in value])


def is_list(value):
    """Tell whether a value is a list or a tuple, which may always stand for each other."""
    return isinstance(value, (list, tuple))


def is_terms(value):
    """Tell whether a value is a list of term rows, whose arguments are earlier rows."""
    return is_list(value) and all([_is_term_row(row, index) for index, row in enumerate(value)])


def _is_term_row(value, index):
    """Tell whether a value is a term row that may stand at an index of a list."""
    if not is_list(value) or len(value) != 2 or not is_name(value[0]):
        return False
    numbers = value[1]
    if not is_list(numbers) or len(numbers) > MOST_ARGUMENTS:
        return False
    return all([is_integer(number, 0, index - 1) for number in numbers])


def parse_integer(text, *, low=0, high=999999):
    """Return the integer from low to high that a text represents in decimal notation, or None."""
    if not isinstance(text, str) or not 1 <= len(text) <= MOST_DIGITS:
        return None
    if not all([character in DIGITS for character in text]):
        return None
    if text[0] == "0" and len(text) > 1:
        return None
    number = int(text)
    return number if low <= number <= high else None


def split_words(text, *, separator=" "):
    """Return the words of a text, between which exactly one separator stands, or None."""
    if not isinstance(text, str) or "\n" in text:
        return None
    words = text.split(separator)
    return None if "" in words else words


def ordered_keys(table):
    """Return the keys of a dict, the strings first, in an order that does not depend on how they were put in."""
    words = sorted([key for key in table if isinstance(key, str)])
    numbers = sorted([key for key in table if isinstance(key, int)])
    return words + numbers + [key for key in table if not isinstance(key, (str, int))]
