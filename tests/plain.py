"""Plain readings of the points about all texts: over all texts with few words, and by the words of [3]."""

import copy
import random

from reflows.chains import Chain, read_chain
from reflows.steps import Wrap
from reflows.stocks import Stock
from tests.helper import ALIGN_KINDS, ODD_VALUES, check_raises, plain_run

NO_CHAINS = ODD_VALUES + [0, "-", "wrap 5 same", Wrap(5), [Wrap(5)], (Wrap(5),), [Chain()], Stock(["#0"])]
NO_STOCKS = ODD_VALUES + [0, "#0 : 1 4", ["#0"], ("#0",), Chain(), Wrap(5), [Stock(["#0"])]]

# What is no mark of [2].
NO_MARKS = ODD_VALUES + [0, 1, "", "  ", "#", "#4", "|00", "0#", "a", "/-", "\n", "|/", ["#0"], ("#0",), Wrap(5)]

# Stocks with one mark, with one length, with marks of one kind, and of all kinds.
STOCKS = [
    Stock(["#0"], longest=1), Stock(["#1"], longest=2), Stock(["#0", "#2"], shortest=3, longest=3),
    Stock(["#0", " "], longest=1), Stock(["#0", " "], longest=3), Stock(["#1", " ", "/0"], longest=2),
    Stock(["#0", " ", "|0"], longest=2), Stock(["#0", "#3", " ", "/2", "|1"], shortest=2, longest=2),
    Stock(["#0", "/1", "|2"], longest=1), Stock(["#2", " ", "/0", "|3"], shortest=1, longest=2),
]

# Within the limits of [5], and as large as they allow.
LARGE_STOCK = Stock([" ", "#1", "|0", "|2", "/3"], longest=5)
LARGE_WRITINGS = [
    "group 9; join |; align # 1; group 9", "wrap 8 same; join |; group 9; hang 2", "group 8; hang 1; wrap 8 same",
    "wrap 8 0; join |/; wrap 7 same; hang 1",
]


def small_writing(chooser):
    """Return the writing of a chain of none to three steps with a small reach."""
    steps = []
    for _ in range(chooser.choice([0, 1, 1, 2, 2, 2, 3])):
        name = chooser.choice(["wrap", "wrap", "group", "group", "alone", "join", "turn", "align", "shift", "hang"])
        steps.append(small_step(chooser, name))
    counting = [step for step in steps if step.split(" ")[0] in ("wrap", "group", "alone")]
    return "; ".join(steps) or "-" if len(counting) < 3 else counting[0]


def small_step(chooser, name):
    """Return the writing of a step of some kind."""
    kinds = chooser.choice(["|", "/", "|/"])
    return {
        "wrap": f"wrap {chooser.randint(1, 7)} {chooser.choice(['same', 'same', '0', '1', '3'])}",
        "group": f"group {chooser.randint(1, 3)}", "alone": f"alone {chooser.randint(0, 3)}",
        "join": f"join {kinds}", "turn": f"turn {kinds} {chooser.choice('#|/')}",
        "align": f"align {chooser.choice(ALIGN_KINDS)} {chooser.randint(0, 3)}",
        "shift": f"shift {chooser.randint(-3, 3)}", "hang": f"hang {chooser.randint(-3, 3)}",
    }[name]


def small_stock(chooser):
    """Return a stock with one to four marks and one to three lengths."""
    marks = ["#" + chooser.choice("0123")] + chooser.sample([" ", " ", " ", "/0", "/2", "|0", "|1", "#0", "#3"], 3)
    shortest = chooser.randint(1, 2)
    return Stock(marks[:chooser.choice([1, 2, 3, 3, 4, 4])], shortest=shortest,
                 longest=shortest + chooser.choice([0, 1, 1, 2]))


def small_cases(many, writings=1):
    """Yield so many tuples of writings of chains, with at most three counting steps in all, and a stock."""
    chooser = random.Random(1000 * many + writings)
    for stock in STOCKS:
        yield (*[small_writing(chooser) for _ in range(writings)], stock)
    for _ in range(many):
        yield (*[small_writing(chooser) for _ in range(writings)], small_stock(chooser))


def chains_of(writings):
    """Return the chains with these writings."""
    return [read_chain(writing) for writing in writings]


def few_texts(stock, budget=700):
    """Yield all texts over a stock up to some number of words, beginning with the fewest, about so many."""
    many = 0
    while many == 0 or (many <= 6 and sum([stock.amount(less) for less in range(many + 1)]) <= budget):
        yield from stock.texts(many)
        many += 1


def some_texts(stock, many, words):
    """Return so many texts over a stock with so many words, the same ones each time."""
    chooser = random.Random(many)
    first, letters = stock.first_letters(), stock.letters()
    rows = [[chooser.choice(first)] + chooser.choices(letters, k=words - 1) for _ in range(many)]
    return [[(mark, "a" * length) for mark, length in row] for row in rows]


def done(writings, text):
    """Return what chains with these writings make of a text, one behind another, by the words of [3]."""
    for writing in writings:
        text = plain_run(writing, text)
    return list(text)


def check_told(case, told, stock, shows, note=None):
    """Check that a text is told that shows something with the fewest words, or None if no text shows it."""
    if told is not None:
        case.assertIs(told.__class__, list, note)
        case.assertTrue(stock.holds(told), note)
        case.assertTrue(shows(told), note)
    for text in few_texts(stock):
        if told is not None and len(text) >= len(told):
            return
        case.assertFalse(shows(text), (note, text))


def only_letters_a(case, text):
    """Check that the words of a text consist of the letter a alone."""
    case.assertEqual([word.strip("a") for _, word in text], [""] * len(text))


def check_arguments(case, call, *args, **named):
    """Check that a call leaves its arguments as they were, and returns new lists and dicts each time."""
    before = copy.deepcopy((args, named))
    case.assertEqual(repr_of(before), repr_of((args, named)))
    one = call(*args, **named)
    kept = copy.deepcopy(one)
    spoil(one)
    case.assertEqual(call(*args, **named), kept)
    case.assertEqual(repr_of((args, named)), repr_of(before))


def repr_of(value):
    """Return a string that shows all that a value of arguments holds."""
    if isinstance(value, (list, tuple)):
        return value.__class__.__name__ + "(" + ", ".join([repr_of(item) for item in value]) + ")"
    if isinstance(value, dict):
        return repr_of(list(value.items()))
    return str(value)


def spoil(value):
    """Change all lists and dicts within a value."""
    for item in value.values() if isinstance(value, dict) else value if isinstance(value, (list, tuple)) else []:
        spoil(item)
    if isinstance(value, dict):
        value.clear()
    if isinstance(value, list):
        value.append("more")
        value[:1] = []


def check_wrong_arguments(case, call, good, wrong):
    """Check the exceptions of a call by name, in the order of its arguments.

    good is a dict of right arguments in their order; wrong has for some of them an exception and values that raise it.
    Behind a wrong argument all others may be wrong, too.
    """
    names = list(good)
    for place, name in enumerate(names):
        if name not in wrong:
            continue
        error, values = wrong[name]
        spoiled = {later: wrong[later][1][0] for later in names[place + 1:] if later in wrong}
        for value in values:
            check_raises(case, error, "value", value, call, **{**good, name: value})
            check_raises(case, error, "value", value, call, **{**good, **spoiled, name: value})


def letters_read(machine, state):
    """Return the letters that a machine reads in a state."""
    return [letter for letter in machine.letters() if state != 0 or letter[0][0] == "#"]


def reads_of(machine):
    """Yield for each state and each letter that is read in it the state, the letter, what is made and the next state."""
    for state in range(len(machine)):
        for letter in letters_read(machine, state):
            yield (state, letter, *machine.read(state, *letter))


def state_behind(machine, text, state=0):
    """Return the state of a machine behind tokens."""
    for mark, word in text:
        state = machine.read(state, mark, len(word))[1]
    return state
