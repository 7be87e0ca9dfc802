"""The desk: a stock, named chains and a text, which are edited and asked by commands."""

from reflows.backs import takes_back
from reflows.chains import read_chain
from reflows.comparisons import alike, settles
from reflows.errors import (
    InvalidChain, InvalidLine, InvalidLines, InvalidName, InvalidText, NoChain, NothingToRedo, NothingToUndo, TooMany,
)
from reflows.machines import Machine
from reflows.rates import widest
from reflows.ripples import CHANGES, ripple
from reflows.stocks import Stock
from reflows.tables import check_chain, check_stock
from reflows.texts import is_text, read_text, write_text
from reflows.words import LETTERS, split_words

LONGEST_NAME = 6
MOST_CHAINS = 12
MOST_LINES = 40
# For each command how many names stand behind its word.
NAMES = {
    "put": 1, "drop": 1, "use": 0, "write": 0, "apply": 1, "undo": 0, "redo": 0,
    "text": 0, "chains": 0, "stock": 0, "make": 1,
    "alike": 2, "settles": 1, "back": 2, "states": 1, "ripple": 1, "widest": 1,
}
EDITS = ("put", "drop", "use", "write", "apply", "undo", "redo")


class Desk:
    """A stock, named chains and a text, with the edits that can be taken back and done again.

    A content is a tuple of the stock, the dict of the chains and the list of the text. What it holds never changes, so
    contents may share it.
    """

    def __init__(self):
        self.stock = Stock([" ", "#0", "|0", "/0"], shortest=1, longest=4)
        self._chains = {}
        self._text = []
        # The contents ahead of the edits in effect, and those behind the edits that were taken back, the next one last.
        self._earlier = []
        self._later = []

    def __eq__(self, other):
        if not isinstance(other, Desk):
            return False
        return self.stock == other.stock and self._chains == other._chains and self._text == other._text

    def __getitem__(self, name):
        self._check_name(name)
        return self._chains[name]

    def __iter__(self):
        raise TypeError("a desk is not gone through")

    @property
    def text(self):
        return list(self._text)

    def names(self):
        """Return the ascending list of the names of the chains."""
        return sorted(list(self._chains))

    def put(self, name, chain):
        """Give a name a chain."""
        if not _is_name(name):
            raise InvalidName(name)
        check_chain(chain)
        if len(self._chains) == MOST_CHAINS and name not in self._chains:
            raise TooMany(MOST_CHAINS + 1)
        self._change(self.stock, {**self._chains, name: chain}, self._text)

    def drop(self, name):
        """Take a name out."""
        self._check_name(name)
        self._change(self.stock, {kept: self._chains[kept] for kept in self._chains if kept != name}, self._text)

    def use(self, stock):
        """Replace the stock."""
        check_stock(stock)
        self._change(stock, self._chains, self._text)

    def write(self, text):
        """Replace the text."""
        if not is_text(text):
            raise InvalidText(text)
        self._change(self.stock, self._chains, list(text))

    def apply(self, name):
        """Replace the text by what a chain makes of it."""
        self._check_name(name)
        chain = self._chains[name]
        self._change(self.stock, self._chains, chain(self._text))

    def undo(self):
        """Take back the last edit in effect."""
        if not self._earlier:
            raise NothingToUndo()
        self._later.append(self._content())
        self.stock, self._chains, self._text = self._earlier.pop()

    def redo(self):
        """Do the last edit again that was taken back."""
        if not self._later:
            raise NothingToRedo()
        self._earlier.append(self._content())
        self.stock, self._chains, self._text = self._later.pop()

    def copied(self):
        """Return a desk with the same stock, chains, text and edits."""
        twin = Desk()
        twin._adopt(self)
        return twin

    def run(self, line):
        """Carry out a command and return its answer."""
        word, names, value = _read_command(line)
        if word != "put":
            for name in names:
                self._check_name(name)
        if word in EDITS:
            self._edit(word, names, value)
            return "ok"
        if names:
            return self._ask(word, [self._chains[name] for name in names], value)
        return self._show(word)

    def run_all(self, lines):
        """Carry out a list of commands as one edit and return the list of their answers."""
        if not isinstance(lines, (list, tuple)) or len(lines) > MOST_LINES:
            raise InvalidLines(lines)
        # A copy is worked on: if a command raises, this desk has not changed.
        trial = self.copied()
        answers = [trial.run(line) for line in lines]
        if "undo" in lines or "redo" in lines:
            self._adopt(trial)
        else:
            self._change(trial.stock, trial._chains, trial._text)
        return answers

    def _content(self):
        """Return the content."""
        return (self.stock, self._chains, self._text)

    def _check_name(self, name):
        """Raise NoChain if a value is not the name of a chain."""
        if not isinstance(name, str) or name not in self._chains:
            raise NoChain(name)

    def _change(self, stock, chains, text):
        """Replace the content, as one edit if it is an unlike one."""
        if (stock, chains, text) != self._content():
            self._earlier.append(self._content())
            self._later = []
            self.stock, self._chains, self._text = stock, chains, text

    def _adopt(self, other):
        """Take over the content and the edits of another desk."""
        self.stock, self._chains, self._text = other._content()
        self._earlier = list(other._earlier)
        self._later = list(other._later)

    def _edit(self, word, names, value):
        """Carry out an edit."""
        if word == "put":
            self.put(names[0], value)
        elif word == "drop":
            self.drop(names[0])
        elif word == "use":
            self.use(value)
        elif word == "write":
            self.write(value)
        elif word == "apply":
            self.apply(names[0])
        elif word == "undo":
            self.undo()
        else:
            self.redo()

    def _show(self, word):
        """Return the answer to a command that asks for what is on the desk."""
        if word == "text":
            return _writing(self._text)
        if word == "stock":
            return str(self.stock)
        return " ; ".join([f"{name} = {self._chains[name]}" for name in self.names()]) if self._chains else "none"

    def _ask(self, word, chains, value):
        """Return the answer to a command that asks about chains."""
        if word == "make":
            chain = chains[0]
            return _writing(chain(self._text))
        if word == "alike":
            return _verdict(alike(chains[0], chains[1], self.stock))
        if word == "settles":
            return _verdict(settles(chains[0], self.stock))
        if word == "back":
            return _verdict(takes_back(chains[0], chains[1], self.stock))
        if word == "states":
            return str(len(Machine(chains[0], self.stock)))
        if word == "ripple":
            return _measure(ripple(chains[0], self.stock, value))
        return _measure(widest(chains[0], self.stock))


def _is_name(value):
    """Tell whether a value is a name."""
    if not isinstance(value, str) or not 1 <= len(value) <= LONGEST_NAME:
        return False
    return all([letter in LETTERS for letter in value])


def _read_command(line):
    """Return the word of a command, the list of its names, and what stands behind them."""
    words = split_words(line)
    if words is None or words[0] not in NAMES:
        raise InvalidLine(line)
    many = NAMES[words[0]]
    names = words[1:many + 1]
    rest = words[many + 1:]
    if len(names) < many:
        raise InvalidLine(line)
    try:
        return (words[0], names, _read_rest(words[0], rest, line))
    except (InvalidChain, InvalidText):
        raise InvalidLine(line) from None


def _read_rest(word, rest, line):
    """Return what stands behind the names of a command: a chain, a stock, a text, a change, or nothing."""
    writing = " ".join(rest)
    if word == "put":
        return read_chain(writing)
    if word == "use":
        return Stock.parse(writing)
    if word == "write" and rest:
        return [] if writing == "-" else read_text(writing)
    if word == "ripple" and writing in CHANGES:
        return writing
    if word in ("write", "ripple") or rest:
        raise InvalidLine(line)
    return None


def _writing(text):
    """Return the writing of a text as an answer."""
    return write_text(text) if text else "-"


def _verdict(text):
    """Return the answer to a question to which None is yes and a text shows no."""
    return "yes" if text is None else f"no {len(text)}"


def _measure(value):
    """Return a number as an answer, or that there is no end."""
    return "endless" if value is None else str(value)
