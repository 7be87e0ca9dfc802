"""The steps, which turn the marks of a text token by token, and their writings.

Each step has a method advance: it does what read does, but checks nothing. The interface asks that each class has all
its methods in its own body, so the short ones stand in each class again.
"""

from reflows.errors import InvalidInteger, InvalidMark, InvalidMarks, InvalidStep
from reflows.runs import check_integer, check_reading, run_tokens
from reflows.words import DEEPEST, KINDS, break_of, indent_of, kind_of, parse_integer, split_words

WIDEST = 12
MOST_WORDS = 9
FARTHEST = 3
# No step turns the first mark of a text into another kind, so join and turn leave out its kind.
INNER_KINDS = ("|", "/", "|/")
ANY_KINDS = ("#", "|", "/", "#|", "#/", "|/", "#|/")
# For each kind of step how many arguments stand behind its name in a writing.
ARGUMENTS = {"wrap": 2, "group": 1, "alone": 1, "join": 1, "turn": 2, "align": 2, "shift": 1, "hang": 1}


class Wrap:
    """Turns a blank into a soft break where its line would get too wide."""

    def __init__(self, width, indent="same"):
        check_integer(width, 1, WIDEST)
        if indent != "same":
            check_integer(indent, 0, DEEPEST)
        self._width = width
        self._indent = indent

    def __call__(self, text):
        return run_tokens(self, text)

    def __eq__(self, other):
        return isinstance(other, Wrap) and self._width == other._width and self._indent == other._indent

    def __str__(self):
        return f"wrap {self._width} {self._indent}"

    @property
    def reach(self):
        return self._width

    def begin(self):
        """Return the state: the width of the line, and the indentation of a soft break in it."""
        return (0, 0 if self._indent == "same" else self._indent)

    def read(self, state, mark, length):
        check_reading(self.begin(), state, mark, length)
        return self.advance(state, mark, length)

    def advance(self, state, mark, length):
        column, indent = state
        if mark == " " and column + 1 + length > self._width:
            mark = break_of("/", indent)
        if mark == " ":
            column = column + 1 + length
        else:
            column = indent_of(mark) + length
            indent = indent_of(mark) if self._indent == "same" else indent
        # No blank stays in a line that is as wide as the step allows or wider: one state is enough for them.
        return (mark, (min(column, self._width), indent))


class Group:
    """Turns a blank into a soft break where its line would get too many words."""

    def __init__(self, most):
        check_integer(most, 1, MOST_WORDS)
        self._most = most

    def __call__(self, text):
        return run_tokens(self, text)

    def __eq__(self, other):
        return isinstance(other, Group) and self._most == other._most

    def __str__(self):
        return f"group {self._most}"

    @property
    def reach(self):
        return 0

    def begin(self):
        """Return the state: the number of the words of the line, and its indentation."""
        return (0, 0)

    def read(self, state, mark, length):
        check_reading(self.begin(), state, mark, length)
        return self.advance(state, mark, length)

    def advance(self, state, mark, length):
        words, indent = state
        if mark == " " and words < self._most:
            return (mark, (words + 1, indent))
        if mark == " ":
            mark = break_of("/", indent)
        return (mark, (1, indent_of(mark)))


class Alone:
    """Turns the blanks ahead of a long word and behind it into soft breaks."""

    def __init__(self, longest):
        check_integer(longest, 0, WIDEST)
        self._longest = longest

    def __call__(self, text):
        return run_tokens(self, text)

    def __eq__(self, other):
        return isinstance(other, Alone) and self._longest == other._longest

    def __str__(self):
        return f"alone {self._longest}"

    @property
    def reach(self):
        return self._longest

    def begin(self):
        """Return the state: 1 if the last word is a long one, otherwise 0, and the indentation of the line."""
        return (0, 0)

    def read(self, state, mark, length):
        check_reading(self.begin(), state, mark, length)
        return self.advance(state, mark, length)

    def advance(self, state, mark, length):
        ahead, indent = state
        long = 1 if length > self._longest else 0
        if mark == " " and ahead + long > 0:
            mark = break_of("/", indent)
        return (mark, (long, indent if mark == " " else indent_of(mark)))


class Join:
    """Turns the breaks of some kinds into blanks."""

    def __init__(self, kinds):
        _check_kinds(kinds, INNER_KINDS)
        self._kinds = kinds

    def __call__(self, text):
        return run_tokens(self, text)

    def __eq__(self, other):
        return isinstance(other, Join) and self._kinds == other._kinds

    def __str__(self):
        return f"join {self._kinds}"

    @property
    def reach(self):
        return 0

    def begin(self):
        return ()

    def read(self, state, mark, length):
        check_reading(self.begin(), state, mark, length)
        return self.advance(state, mark, length)

    def advance(self, state, mark, length):
        return (" " if kind_of(mark) in self._kinds else mark, state)


class Turn:
    """Turns the breaks of some kinds into another kind."""

    def __init__(self, kinds, kind):
        _check_kinds(kinds, INNER_KINDS)
        if kind not in KINDS:
            raise InvalidMark(kind)
        self._kinds = kinds
        self._kind = kind

    def __call__(self, text):
        return run_tokens(self, text)

    def __eq__(self, other):
        return isinstance(other, Turn) and self._kinds == other._kinds and self._kind == other._kind

    def __str__(self):
        return f"turn {self._kinds} {self._kind}"

    @property
    def reach(self):
        return 0

    def begin(self):
        return ()

    def read(self, state, mark, length):
        check_reading(self.begin(), state, mark, length)
        return self.advance(state, mark, length)

    def advance(self, state, mark, length):
        if kind_of(mark) in self._kinds:
            mark = break_of(self._kind, indent_of(mark))
        return (mark, state)


class Align:
    """Gives the breaks of some kinds one indentation."""

    def __init__(self, kinds, indent):
        _check_kinds(kinds, ANY_KINDS)
        check_integer(indent, 0, DEEPEST)
        self._kinds = kinds
        self._indent = indent

    def __call__(self, text):
        return run_tokens(self, text)

    def __eq__(self, other):
        return isinstance(other, Align) and self._kinds == other._kinds and self._indent == other._indent

    def __str__(self):
        return f"align {self._kinds} {self._indent}"

    @property
    def reach(self):
        return 0

    def begin(self):
        return ()

    def read(self, state, mark, length):
        check_reading(self.begin(), state, mark, length)
        return self.advance(state, mark, length)

    def advance(self, state, mark, length):
        kind = kind_of(mark)
        return (break_of(kind, self._indent) if kind in self._kinds else mark, state)


class Shift:
    """Makes the indentations of all breaks greater or less."""

    def __init__(self, by):
        check_integer(by, -FARTHEST, FARTHEST)
        self._by = by

    def __call__(self, text):
        return run_tokens(self, text)

    def __eq__(self, other):
        return isinstance(other, Shift) and self._by == other._by

    def __str__(self):
        return f"shift {self._by}"

    @property
    def reach(self):
        return 0

    def begin(self):
        return ()

    def read(self, state, mark, length):
        check_reading(self.begin(), state, mark, length)
        return self.advance(state, mark, length)

    def advance(self, state, mark, length):
        if mark != " ":
            mark = break_of(kind_of(mark), indent_of(mark) + self._by)
        return (mark, state)


class Hang:
    """Indents soft breaks by the break ahead of them that is not soft."""

    def __init__(self, by):
        check_integer(by, -FARTHEST, FARTHEST)
        self._by = by

    def __call__(self, text):
        return run_tokens(self, text)

    def __eq__(self, other):
        return isinstance(other, Hang) and self._by == other._by

    def __str__(self):
        return f"hang {self._by}"

    @property
    def reach(self):
        return 0

    def begin(self):
        """Return the state: the indentation of the last break that is not soft."""
        return (0,)

    def read(self, state, mark, length):
        check_reading(self.begin(), state, mark, length)
        return self.advance(state, mark, length)

    def advance(self, state, mark, length):
        if mark == " ":
            return (mark, state)
        if kind_of(mark) == "/":
            return (break_of("/", state[0] + self._by), state)
        return (mark, (indent_of(mark),))


def is_step(value):
    """Tell whether a value is a step."""
    return isinstance(value, (Wrap, Group, Alone, Join, Turn, Align, Shift, Hang))


def read_step(text):
    """Return the step with this writing."""
    parts = split_words(text)
    if parts is None or ARGUMENTS.get(parts[0]) != len(parts) - 1:
        raise InvalidStep(text)
    try:
        return _make_step(parts[0], [_argument_of(part) for part in parts[1:]])
    except (InvalidInteger, InvalidMarks, InvalidMark):
        raise InvalidStep(text) from None


def _check_kinds(kinds, known):
    """Raise InvalidMarks if a value is not one of these rows of kinds."""
    if kinds not in known:
        raise InvalidMarks(kinds)


def _argument_of(part):
    """Return what a part of a writing stands for: an integer, or the string itself."""
    number = parse_integer(part, low=-FARTHEST, high=WIDEST)
    return part if number is None else number


def _make_step(name, arguments):
    """Return the step of a kind, told by its name, with as many arguments as this kind has."""
    if name == "wrap":
        return Wrap(*arguments)
    if name == "group":
        return Group(*arguments)
    if name == "alone":
        return Alone(*arguments)
    if name == "join":
        return Join(*arguments)
    if name == "turn":
        return Turn(*arguments)
    if name == "align":
        return Align(*arguments)
    if name == "shift":
        return Shift(*arguments)
    return Hang(*arguments)
