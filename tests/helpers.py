"""What several tests share: values of every kind, exceptions with their fields, and long books."""

import signal

from toldpast.books import Book

HUGE = 10 ** 30 - 1


def limit_seconds(case, seconds):
    """Let a test fail that takes too long, so that an endless walk does not just never end."""
    def ring(number, frame):
        raise AssertionError("not answered promptly")
    signal.signal(signal.SIGALRM, ring)
    signal.alarm(seconds)
    case.addCleanup(signal.alarm, 0)


def any_values():
    """Values of every kind that [6] names, new ones at each call."""
    return [
        None, True, False, 0, 1, -1, 7, HUGE, -HUGE, "", "a", "x1", "f(a)", "x@3", "a\nb", " ", "~" * 200,
        [], (), {}, [0], (0,), [1, 2], ("a", ()), ["a", []], ("x", 3), ("f", (0,)), ("f", (True,)), ("x", True),
        [("a", ())], {"a": 1, 2: [3]}, [[[[[["a"]]]]]], ("a", ("b", ("c", ()))), ("f", {}), ("f", None),
        [None] * 200, Book(), Book([("a", ())]), {"x": [1]}, {"x": None}, [True, False], ("a", "b"), [Book()],
    ]


def check_raises(case, error, fields, call, *arguments, **more):
    """Check that a call raises exactly this class, with the very objects in its fields."""
    try:
        call(*arguments, **more)
    except Exception as caught:
        case.assertIs(error, caught.__class__, (arguments, more, repr(caught)))
        case.assertEqual(sorted(fields), sorted(vars(caught)))
        for name, value in fields.items():
            case.assertIs(value, getattr(caught, name), (name, arguments, more))
    else:
        case.fail(f"{error.__name__} was not raised for {arguments!r} {more!r}")


def check_refused(case, book, error, fields, call, *arguments, **more):
    """Check as check_raises does, and that the book is what it was before."""
    before = [book.rows(), facts(book)]
    check_raises(case, error, fields, call, *arguments, **more)
    case.assertEqual(before, [book.rows(), facts(book)])


def facts(book):
    """What a book tells of each row, one after the other."""
    return [(book[n], book.parts(n), book.size(n), book.depth(n)) for n in range(len(book))]


def chain_rows(symbol, width, count):
    """A constant and, above it, a chain in which each row uses the one before as often as width says."""
    return [("a", ())] + [(symbol, (n,) * width) for n in range(count - 1)]


def tree_of(book, number):
    """A term as a nested tuple, for small terms only."""
    name, last = book[number]
    if not isinstance(last, tuple):
        return (name, last)
    return (name, tuple(tree_of(book, n) for n in last))
