"""What the questions about all texts share: their checks, and least machines as tables that are read without checks.

A table has a row for each state of a least machine: a dict that tells for each letter that is read in this state the
mark that comes out and the next state.
"""

from reflows.chains import Chain
from reflows.errors import InvalidChain, InvalidStock
from reflows.stocks import Stock
from reflows.words import kind_of


def check_chain(value):
    """Raise InvalidChain if a value is not a chain."""
    if not isinstance(value, Chain):
        raise InvalidChain(value)


def check_stock(value):
    """Raise InvalidStock if a value is not a stock."""
    if not isinstance(value, Stock):
        raise InvalidStock(value)


def table_of(machine):
    """Return the table of a machine."""
    letters = machine.letters()
    first = [letter for letter in letters if kind_of(letter[0]) == "#"]
    rows = [first] + [letters] * (len(machine) - 1)
    return [
        {(mark, length): machine.read(state, mark, length) for mark, length in row} for state, row in enumerate(rows)
    ]


def token_of(letter):
    """Return the token of a letter, with a word of the letter a alone."""
    mark, length = letter
    return (mark, "a" * length)


def tokens_of(letters):
    """Return the list of the tokens of letters."""
    return [token_of(letter) for letter in letters]
