"""What several tests share: values of every kind, exceptions with their fields, long books, and new lists."""

import signal

from toldpast.books import Book
from toldpast.lags import Lags
from toldpast.nets import Net
from toldpast.runs import Machine

HUGE = 10 ** 30 - 1


def limit_seconds(case, seconds):
    """Let a test fail that takes too long, so that an endless walk does not just never end."""
    def ring(number, frame):
        raise AssertionError("not answered promptly")
    signal.signal(signal.SIGALRM, ring)
    signal.alarm(seconds)
    case.addCleanup(signal.alarm, 0)


def small_net():
    """A network with one of each: an input, a gate on a ring, an out, and a term with an argument."""
    return Net(["x"], [("g", "f", [("x", []), ("g", [0])])], [("g", [1])], [("a", ()), ("h", (0,))])


def small_meaning():
    """A meaning for the small network."""
    return {"a": lambda v: 5, "h": lambda v: v[0] + 1, "f": lambda v: v[0] + v[1]}


def any_values():
    """Values of every kind that [6] names, new ones at each call."""
    return [
        None, True, False, 0, 1, -1, 7, HUGE, -HUGE, "", "a", "x1", "f(a)", "x@3", "a\nb", " ", "~" * 200,
        [], (), {}, [0], (0,), [1, 2], ("a", ()), ["a", []], ("x", 3), ("f", (0,)), ("f", (True,)), ("x", True),
        [("a", ())], {"a": 1, 2: [3]}, [[[[[["a"]]]]]], ("a", ("b", ("c", ()))), ("f", {}), ("f", None),
        [None] * 200, Book(), Book([("a", ())]), {"x": [1]}, {"x": None}, [True, False], ("a", "b"), [Book()],
        small_net(), Net([], [], []), [small_net()], {"x": small_net()}, ("x", small_net()),
        Machine(small_net(), small_meaning()), Lags({}), Lags({"g": 1}), [Lags({"g": 1})], {"g": Lags({})}, {"g": True},
    ]


def no_lists():
    """Values of every kind but lists and tuples."""
    return [value for value in any_values() if not isinstance(value, (list, tuple))]


def no_names():
    """Values of every kind but names, strings that nearly are names among them."""
    near = ["A", "xA", "1x", "x y", "x_", "abcdefghi", "x\n", "\nx", " x", "x "]
    return near + [value for value in any_values() if value not in ("a", "x1")]


def no_indices(count):
    """Values of every kind but integers from 0 on and below a count."""
    return [value for value in any_values() + [count, count + 1, -1, -count, "0", 0.0]
            if value.__class__ is not int or value not in range(count)]


def no_nets():
    """Values of every kind but networks."""
    return [value for value in any_values() if not isinstance(value, Net)] + [small_net().rows()]


def containers(value):
    """All lists and dicts in a value, at any depth."""
    found = [value] if isinstance(value, (list, dict)) else []
    inner = list(value.values()) if isinstance(value, dict) else value if isinstance(value, (list, tuple)) else []
    for item in inner:
        found.extend(containers(item))
    return found


def check_new(case, call, *arguments, **more):
    """Check that each call gives equal results, in which no two lists or dicts are the same object."""
    results = [call(*arguments, **more) for _ in range(3)]
    case.assertEqual(results[0], results[1])
    found = containers(list(results))
    case.assertEqual(len(found), len({id(item) for item in found}), call)
    return results[0]


def spoil(value):
    """Change all lists and dicts in a value."""
    for item in containers(value):
        if isinstance(item, dict):
            item["spoilt"] = "spoilt"
        else:
            item.reverse()
            item.append("spoilt")


def check_order(case, make, faults, call):
    """Check that of any two faults the earlier one is told.

    make() returns new arguments in a dict; a fault is a function that puts it into such a dict, and returns the class
    of the exception and the values of its fields.
    """
    for late in range(len(faults)):
        for early in range(late + 1):
            arguments = make()
            # The earlier fault is put in last, as it may replace what the later one is in.
            faults[late](arguments)
            error, fields = faults[early](arguments)
            check_raises(case, error, fields, call, **arguments)


def check_raises(case, error, fields, call, *arguments, **more):
    """Check that a call raises exactly this class, with the very objects in its fields."""
    try:
        call(*arguments, **more)
    except Exception as caught:
        case.assertIs(error, caught.__class__, (arguments, more, repr(caught)))
        case.assertEqual(sorted(fields), sorted(vars(caught)))
        for name, value in fields.items():
            case.assertIs(value, getattr(caught, name), (name, arguments, more))
    else:
        case.fail(f"{error.__name__} was not raised for {arguments!r} {more!r}")


def check_refused(case, book, error, fields, call, *arguments, **more):
    """Check as check_raises does, and that the book is what it was before."""
    before = [book.rows(), facts(book)]
    check_raises(case, error, fields, call, *arguments, **more)
    case.assertEqual(before, [book.rows(), facts(book)])


def facts(book):
    """What a book tells of each row, one after the other."""
    return [(book[n], book.parts(n), book.size(n), book.depth(n)) for n in range(len(book))]


def chain_rows(symbol, width, count):
    """A constant and, above it, a chain in which each row uses the one before as often as width says."""
    return [("a", ())] + [(symbol, (n,) * width) for n in range(count - 1)]


def tree_of(book, number):
    """A term as a nested tuple, for small terms only."""
    name, last = book[number]
    if not isinstance(last, tuple):
        return (name, last)
    return (name, tuple(tree_of(book, n) for n in last))
