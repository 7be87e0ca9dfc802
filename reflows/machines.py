"""Machines: the least tables that do with all texts over a stock what a chain does.

While a machine is made, a row stands for a state: a dict that tells for each letter that is read there the mark that
comes out and the number of the next state. The row of the state ahead of the first token is the first one.
"""

from reflows.chains import Chain
from reflows.errors import InvalidChain, InvalidState, InvalidStock, NoLetter, NotOver
from reflows.stocks import Stock
from reflows.words import is_integer


class Machine:
    """The least machine that does with all texts over a stock what a chain does."""

    def __init__(self, chain, stock):
        if not isinstance(chain, Chain):
            raise InvalidChain(chain)
        if not isinstance(stock, Stock):
            raise InvalidStock(stock)
        self._stock = stock
        self._rows = _least_rows(_chain_rows(chain, stock))
        self._ways = _first_ways(self._rows)

    def __len__(self):
        return len(self._rows)

    def __eq__(self, other):
        # The rows tell the states and the letters, too.
        return isinstance(other, Machine) and self._rows == other._rows

    def letters(self):
        """Return the list of the letters, in order."""
        return self._stock.letters()

    def read(self, state, mark, length):
        """Return the mark that comes out of a letter in a state, and the next state."""
        self._check_state(state)
        letter = (mark, length)
        # The stock is asked first: what is no letter may have no hash, or equal one as True equals 1.
        if letter not in self._stock or letter not in self._rows[state]:
            raise NoLetter(letter)
        return self._rows[state][letter]

    def run(self, text):
        """Return the text that the machine makes of a text."""
        if not self._stock.holds(text):
            raise NotOver(text)
        state = 0
        made = []
        for mark, word in text:
            turned, state = self._rows[state][(mark, len(word))]
            made.append((turned, word))
        return made

    def shortest(self, state):
        """Return a text with the fewest words behind which the machine is in a state."""
        self._check_state(state)
        text = []
        while state != 0:
            state, (mark, length) = self._ways[state]
            text.append((mark, "a" * length))
        return text[::-1]

    def _check_state(self, state):
        """Raise InvalidState if a value is not a state."""
        if not is_integer(state, 0, len(self._rows) - 1):
            raise InvalidState(state)


def _chain_rows(chain, stock):
    """Return the rows of all states of a chain that texts over a stock come to, in the order of coming to them."""
    states = [chain.begin()]
    # The state ahead of the first token is not among them: nothing leads back to it, even if an equal one comes.
    numbers = {}
    rows = []
    while len(rows) < len(states):
        letters = stock.letters() if rows else stock.first_letters()
        row = {}
        for mark, length in letters:
            made, reached = chain.advance(states[len(rows)], mark, length)
            if reached not in numbers:
                numbers[reached] = len(states)
                states.append(reached)
            row[(mark, length)] = (made, numbers[reached])
        rows.append(row)
    return rows


def _least_rows(rows):
    """Return the rows of the least machine that does what these rows do, its states in the order of coming to them."""
    classes = _alike_classes(rows)
    least = []
    # Rows are in the order of coming to them, so the first row of a class has the number of the class.
    for state, row in enumerate(rows):
        if classes[state] == len(least):
            least.append({letter: (made, classes[reached]) for letter, (made, reached) in row.items()})
    return least


def _alike_classes(rows):
    """Return for each state the number of its class: states are in one class if they act alike with all texts.

    The classes are numbered in the order of their first states.
    """
    # The first state is in a class by itself, even if all letters are read in it.
    classes = _numbers_of([(state > 0, *[made for made, _ in row.values()]) for state, row in enumerate(rows)])
    highest = 0
    # States of one class stay together as long as each letter leads from them to one class.
    while max(classes) > highest:
        highest = max(classes)
        classes = _numbers_of([
            (classes[state], *[classes[reached] for _, reached in row.values()]) for state, row in enumerate(rows)
        ])
    return classes


def _numbers_of(signs):
    """Return for each sign a number, the same one for equal signs, in the order in which they come first."""
    numbers = {}
    return [numbers.setdefault(sign, len(numbers)) for sign in signs]


def _first_ways(rows):
    """Return for each state but the first one the state and the letter from which it is come to first."""
    ways = {}
    for state, row in enumerate(rows):
        for letter, (_, reached) in row.items():
            if reached not in ways:
                ways[reached] = (state, letter)
    return ways
