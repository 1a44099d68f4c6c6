"""The exceptions of the package: three bases, and every other class directly below one of them.

A field holds the very object that it was made with.
"""


class NetError(ValueError):
    """An argument is invalid."""


class MissingError(KeyError):
    """A name is unknown."""


class StateError(LookupError):
    """An operation is not possible."""


class InvalidInteger(NetError):
    """A value is not an integer of the range that is asked for."""

    def __init__(self, value):
        self.value = value


class InvalidPart(NetError):
    """A value is not a part of the kind that is asked for."""

    def __init__(self, value):
        self.value = value


class InvalidName(NetError):
    """A value is not a name."""

    def __init__(self, value):
        self.value = value


class Duplicate(NetError):
    """A name is given twice."""

    def __init__(self, name):
        self.name = name


class InvalidRow(NetError):
    """A value is not a row that can stand at its place."""

    def __init__(self, value):
        self.value = value


class InvalidEdge(NetError):
    """A value is not an edge."""

    def __init__(self, value):
        self.value = value


class InvalidNet(NetError):
    """A value is not a network."""

    def __init__(self, value):
        self.value = value


class Ring(NetError):
    """Gates form a ring without a delay."""

    def __init__(self, gates):
        self.gates = gates


class Dry(NetError):
    """No way from an input leads to a gate."""

    def __init__(self, name):
        self.name = name


class Idle(NetError):
    """No way from a gate leads to an out."""

    def __init__(self, name):
        self.name = name


class InvalidBook(NetError):
    """A value is not a book."""

    def __init__(self, value):
        self.value = value


class InvalidTurn(NetError):
    """A value is not the number of a turn."""

    def __init__(self, value):
        self.value = value


class InvalidMeaning(NetError):
    """A value is not a meaning."""

    def __init__(self, value):
        self.value = value


class InvalidValues(NetError):
    """A value does not list values of inputs."""

    def __init__(self, value):
        self.value = value


class InvalidString(NetError):
    """A value is not a string that represents what is asked for."""

    def __init__(self, value):
        self.value = value


class InvalidLine(NetError):
    """A line of a text has none of the forms."""

    def __init__(self, index):
        self.index = index


class DuplicateTerm(NetError):
    """Two term lines have the same number."""

    def __init__(self, number):
        self.number = number


class Mismatch(NetError):
    """Two networks have unlike inputs or outs."""

    def __init__(self, other):
        self.other = other


class InvalidLags(NetError):
    """A value does not give lags."""

    def __init__(self, value):
        self.value = value


class InvalidStep(NetError):
    """A value is not the step of a move."""

    def __init__(self, value):
        self.value = value


class InvalidWish(NetError):
    """A value is not a wish."""

    def __init__(self, value):
        self.value = value


class InvalidCommand(NetError):
    """A value is not a command."""

    def __init__(self, value):
        self.value = value


class UnknownSource(MissingError):
    """There is no input or gate of a name."""

    def __init__(self, name):
        self.name = name


class UnknownGate(MissingError):
    """There is no gate of a name."""

    def __init__(self, name):
        self.name = name


class UnknownEdge(MissingError):
    """There is no edge to a reader and a slot."""

    def __init__(self, reader, slot):
        self.reader = reader
        self.slot = slot


class UnknownSymbol(MissingError):
    """A meaning has no function for a symbol."""

    def __init__(self, name):
        self.name = name


class UnknownSample(MissingError):
    """There is no value for an input at a turn."""

    def __init__(self, name, index):
        self.name = name
        self.index = index


class UnknownTerm(MissingError):
    """There is no term with a number."""

    def __init__(self, number):
        self.number = number


class NoTurn(StateError):
    """No turn has been performed."""

    def __init__(self):
        pass


class TooLong(StateError):
    """The text of a term would be too long."""

    def __init__(self, number):
        self.number = number


class TooShort(StateError):
    """An edge would get less than zero delays."""

    def __init__(self, reader, slot):
        self.reader = reader
        self.slot = slot


class TooDeep(StateError):
    """A gate would get a lag greater than its depth."""

    def __init__(self, name):
        self.name = name


class TooMany(StateError):
    """There are more than are allowed."""

    def __init__(self, most):
        self.most = most


class EmptyLoop(StateError):
    """An out that is fed back to an input is that input itself."""

    def __init__(self, out):
        self.out = out


class NothingToUndo(StateError):
    """There is no change to take back or to perform again."""

    def __init__(self):
        pass
