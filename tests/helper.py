"""What several test files use."""

import copy
import itertools
import random

from reflows.errors import ReflowError
from reflows.words import all_marks

NOTE = [("#0", "to"), (" ", "be"), ("/1", "or"), ("|0", "not"), ("#2", "to")]

# Values of all kinds that are neither integers, nor strings, nor lists of anything the package knows.
ODD_VALUES = [
    None, True, False, [], (), {}, [None], (None,), {"a": 1}, {1: []}, [[]], ((),), [[[["a"]]]], ReflowError("a"),
]

# The rows of kinds that align takes.
ALIGN_KINDS = ("#", "|", "/", "#|", "#/", "|/", "#|/")

NO_TEXTS = [
    None, True, False, 0, 7, "", "a", "#0a", {}, {"#0": "a"}, {0: ("#0", "a")},
    [None], [[]], [()], ["#0a"], ["#0"], ["ab"], [7],
    [("/0", "a")], [("|0", "a")], [(" ", "a")], ((" ", "a"),),
    [["#0", "a"]], [("#0", "a"), ["/0", "b"]], ("#0", "a"), ["#0", "a"],
    [("#0",)], [("#0", "a", "b")], [("#4", "a")], [("#", "a")], [("#00", "a")], [("", "a")],
    [("#0", "")], [("#0", "A")], [("#0", "a1")], [("#0", "a b")], [("#0", "a\n")], [("#0", "a" * 31)],
    [("#0", None)], [("#0", 1)], [("#0", ["a"])], [(None, "a")], [(True, "a")], [(0, "a")], [(["#0"], "a")],
    [("#0", "a"), ("x", "b")], [("#0", "a"), (" ", "")], (("#0", "a"), None), [("#0", "a"), (" ", "b"), ("/4", "c")],
]


def strings(characters, most):
    """Yield all strings of at most so many of these characters."""
    for many in range(most + 1):
        for row in itertools.product(characters, repeat=many):
            yield "".join(row)


def small_texts(most, lengths=(1, 2)):
    """Yield all texts of at most so many tokens, with words of these lengths."""
    marks = all_marks()
    first = [mark for mark in marks if mark[0] == "#"]
    for many in range(most + 1):
        rows = itertools.product(*([first] + [marks] * (many - 1))[:many])
        for row in rows:
            for sizes in itertools.product(lengths, repeat=many):
                yield [(mark, "abc"[:size]) for mark, size in zip(row, sizes)]


def long_text():
    """Return a text of 300 tokens with words of thirty letters and all marks."""
    marks = all_marks()
    rest = [marks[index % 13] for index in range(299)]
    return [(mark, "abcdefghijklmnopqrstuvwxyzabcd") for mark in ["#3"] + rest]


def tupled(value):
    """Return a value with tuples in the place of its lists."""
    return tuple(tupled(item) for item in value) if isinstance(value, (list, tuple)) else value


def check_raises(case, error, field, held, call, *args, **named):
    """Check that a call raises an exception of just this class, whose field is the very object."""
    with case.assertRaises(error) as caught:
        call(*args, **named)
    case.assertEqual(caught.exception.__class__, error)
    case.assertIs(getattr(caught.exception, field), held)


def check_new_list(case, call, *args, **named):
    """Check that each call returns a list of its own, and that the arguments stay as they were."""
    before = copy.deepcopy((args, named))
    one = call(*args, **named)
    case.assertEqual(one.__class__, list)
    kept = copy.deepcopy(one)
    for argument in list(args) + list(named.values()):
        case.assertIsNot(one, argument)
    one.append("more")
    one[:1] = []
    other = call(*args, **named)
    case.assertIsNot(one, other)
    case.assertEqual(other, kept)
    case.assertEqual((args, named), before)


def check_keeps(case, call, *args):
    """Check that a call leaves its arguments as they were."""
    before = copy.deepcopy(args)
    call(*args)
    case.assertEqual(args, before)


def check_new_text(case, call, text):
    """Check that a call on a text returns a list of its own each time, also of a tuple, and leaves the text as it was."""
    check_new_list(case, call, text)
    case.assertEqual(call(tuple(text)), call(text))
    case.assertEqual(call(tuple(text)).__class__, list)


def mixed_texts(many, most, lengths=(1, 2, 3, 4, 5, 7, 9, 12, 13, 30)):
    """Yield so many texts of up to so many tokens, with all marks and words of these lengths, the same ones each time."""
    chooser = random.Random(many)
    marks = all_marks()
    for _ in range(many):
        text = [(chooser.choice(marks[1:5]), "a" * chooser.choice(lengths))]
        # Blanks are what the steps turn most: half of the marks are blanks.
        while len(text) < most:
            mark = chooser.choice(marks) if chooser.random() < 0.5 else " "
            text.append((mark, "z" * chooser.choice(lengths)))
        yield text


def all_writings():
    """Return the writings of all steps that there are, by the words of [3]."""
    found = [f"wrap {width} {indent}" for width in range(1, 13) for indent in ("same", 0, 1, 2, 3)]
    found += [f"group {most}" for most in range(1, 10)] + [f"alone {longest}" for longest in range(13)]
    found += [f"join {kinds}" for kinds in ("|", "/", "|/")]
    found += [f"turn {kinds} {kind}" for kinds in ("|", "/", "|/") for kind in "#|/"]
    found += [f"align {kinds} {indent}" for kinds in ALIGN_KINDS for indent in range(4)]
    return found + [f"{name} {by}" for name in ("shift", "hang") for by in range(-3, 4)]


def plain_run(writing, text):
    """Return what a chain with this writing makes of a text, by the words of [3].

    Each mark is told from all the tokens that the step has made so far, without states.
    """
    for part in [] if writing == "-" else writing.split("; "):
        name, *arguments = part.split(" ")
        made = []
        for mark, word in text:
            made.append((PLAIN_RULES[name](arguments, made, mark, word), word))
        text = made
    return text


def last_line(made):
    """Return the tokens from the last break on."""
    return made[max([index for index, token in enumerate(made) if token[0] != " "]):]


def between(indent):
    """Return an indentation as a digit, at least 0 and at most 3."""
    return str(sorted([0, indent, 3])[1])


def plain_wrap(arguments, made, mark, word):
    """Return the mark that wrap makes."""
    if mark != " ":
        return mark
    line = last_line(made) + [(" ", word)]
    width = int(line[0][0][1]) + sum([len(token[1]) for token in line]) + len(line) - 1
    if width <= int(arguments[0]):
        return mark
    return "/" + (line[0][0][1] if arguments[1] == "same" else arguments[1])


def plain_group(arguments, made, mark, word):
    """Return the mark that group makes."""
    if mark != " " or len(last_line(made)) < int(arguments[0]):
        return mark
    return "/" + last_line(made)[0][0][1]


def plain_alone(arguments, made, mark, word):
    """Return the mark that alone makes."""
    if mark != " " or (len(word) <= int(arguments[0]) and len(made[-1][1]) <= int(arguments[0])):
        return mark
    return "/" + last_line(made)[0][0][1]


def plain_join(arguments, made, mark, word):
    """Return the mark that join makes."""
    return " " if mark != " " and mark[0] in arguments[0] else mark


def plain_turn(arguments, made, mark, word):
    """Return the mark that turn makes."""
    return arguments[1] + mark[1] if mark != " " and mark[0] in arguments[0] else mark


def plain_align(arguments, made, mark, word):
    """Return the mark that align makes."""
    return mark[0] + arguments[1] if mark != " " and mark[0] in arguments[0] else mark


def plain_shift(arguments, made, mark, word):
    """Return the mark that shift makes."""
    return mark if mark == " " else mark[0] + between(int(mark[1]) + int(arguments[0]))


def plain_hang(arguments, made, mark, word):
    """Return the mark that hang makes."""
    if mark[0] != "/":
        return mark
    ahead = [token[0] for token in made if token[0][0] in "#|"]
    return "/" + between(int(ahead[-1][1]) + int(arguments[0]))


PLAIN_RULES = {
    "wrap": plain_wrap, "group": plain_group, "alone": plain_alone, "join": plain_join, "turn": plain_turn,
    "align": plain_align, "shift": plain_shift, "hang": plain_hang,
}


def read_through(step, text):
    """Return what comes out if a step or a chain reads a text token by token."""
    state = step.begin()
    made = []
    for mark, word in text:
        turned, state = step.read(state, mark, len(word))
        made.append((turned, word))
    return made


def states_of(step, lengths=tuple(range(1, 31))):
    """Return all states of a step or a chain that come behind texts with words of these lengths."""
    found = []
    known = set()
    waiting = [(step.begin(), all_marks()[1:5])]
    while waiting:
        state, marks = waiting.pop()
        for mark in marks:
            for length in lengths:
                reached = step.read(state, mark, length)[1]
                if reached not in known:
                    known.add(reached)
                    found.append(reached)
                    waiting.append((reached, all_marks()))
    return found
