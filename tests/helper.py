"""What several test files use."""

import copy
import itertools

from reflows.errors import ReflowError
from reflows.words import all_marks

NOTE = [("#0", "to"), (" ", "be"), ("/1", "or"), ("|0", "not"), ("#2", "to")]

# Values of all kinds that are neither integers, nor strings, nor lists of anything the package knows.
ODD_VALUES = [
    None, True, False, [], (), {}, [None], (None,), {"a": 1}, {1: []}, [[]], ((),), [[[["a"]]]], ReflowError("a"),
]

NO_TEXTS = [
    None, True, False, 0, 7, "", "a", "#0a", {}, {"#0": "a"}, {0: ("#0", "a")},
    [None], [[]], [()], ["#0a"], ["#0"], ["ab"], [7],
    [("/0", "a")], [("|0", "a")], [(" ", "a")], ((" ", "a"),),
    [["#0", "a"]], [("#0", "a"), ["/0", "b"]], ("#0", "a"), ["#0", "a"],
    [("#0",)], [("#0", "a", "b")], [("#4", "a")], [("#", "a")], [("#00", "a")], [("", "a")],
    [("#0", "")], [("#0", "A")], [("#0", "a1")], [("#0", "a b")], [("#0", "a\n")], [("#0", "a" * 31)],
    [("#0", None)], [("#0", 1)], [("#0", ["a"])], [(None, "a")], [(True, "a")], [(0, "a")], [(["#0"], "a")],
    [("#0", "a"), ("x", "b")], [("#0", "a"), (" ", "")], (("#0", "a"), None), [("#0", "a"), (" ", "b"), ("/4", "c")],
]


def strings(characters, most):
    """Yield all strings of at most so many of these characters."""
    for many in range(most + 1):
        for row in itertools.product(characters, repeat=many):
            yield "".join(row)


def small_texts(most, lengths=(1, 2)):
    """Yield all texts of at most so many tokens, with words of these lengths."""
    marks = all_marks()
    first = [mark for mark in marks if mark[0] == "#"]
    for many in range(most + 1):
        rows = itertools.product(*([first] + [marks] * (many - 1))[:many])
        for row in rows:
            for sizes in itertools.product(lengths, repeat=many):
                yield [(mark, "abc"[:size]) for mark, size in zip(row, sizes)]


def long_text():
    """Return a text of 300 tokens with words of thirty letters and all marks."""
    marks = all_marks()
    rest = [marks[index % 13] for index in range(299)]
    return [(mark, "abcdefghijklmnopqrstuvwxyzabcd") for mark in ["#3"] + rest]


def tupled(value):
    """Return a value with tuples in the place of its lists."""
    return tuple(tupled(item) for item in value) if isinstance(value, (list, tuple)) else value


def check_raises(case, error, field, held, call, *args, **named):
    """Check that a call raises an exception of just this class, whose field is the very object."""
    with case.assertRaises(error) as caught:
        call(*args, **named)
    case.assertEqual(caught.exception.__class__, error)
    case.assertIs(getattr(caught.exception, field), held)


def check_new_list(case, call, *args, **named):
    """Check that each call returns a list of its own, and that the arguments stay as they were."""
    before = copy.deepcopy((args, named))
    one = call(*args, **named)
    case.assertEqual(one.__class__, list)
    kept = copy.deepcopy(one)
    for argument in list(args) + list(named.values()):
        case.assertIsNot(one, argument)
    one.append("more")
    one[:1] = []
    other = call(*args, **named)
    case.assertIsNot(one, other)
    case.assertEqual(other, kept)
    case.assertEqual((args, named), before)


def check_keeps(case, call, *args):
    """Check that a call leaves its arguments as they were."""
    before = copy.deepcopy(args)
    call(*args)
    case.assertEqual(args, before)
