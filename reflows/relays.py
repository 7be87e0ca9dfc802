"""Relays: chains that are done one behind another, and the search for texts at which two of them part.

Chains that stand together in a relay may have more steps than one chain can have. So a relay asks the least machine of
each of its chains, over the marks that the chains ahead of it make.
"""

from reflows.chains import Chain
from reflows.machines import Machine
from reflows.stocks import Stock
from reflows.tables import table_of, tokens_of


class Relay:
    """Chains that are done one behind another with texts over a stock.

    Its states are rows of states, one of each machine. They are numbered as they are come to, from 0 for the one ahead
    of the first token. A state is gone on from only when it is asked for: most questions are answered by a few.
    """

    def __init__(self, chains, stock):
        self._tables = []
        self._letters = stock.letters()
        self._first_letters = stock.first_letters()
        for chain in chains:
            table = table_of(Machine(chain, stock))
            self._tables.append(table)
            stock = _made_stock(table, stock)
        self._states = [tuple([0] * len(self._tables))]
        self._numbers = {}
        self._reads = {}

    def letters(self, number):
        """Return the list of the letters that are read in the state of a number."""
        return self._letters if number > 0 else self._first_letters

    def reads(self, number):
        """Return for each letter that is read in a state the mark that comes out and the number of the next state."""
        if number not in self._reads:
            self._reads[number] = [self._read(number, mark, length) for mark, length in self.letters(number)]
        return self._reads[number]

    def _read(self, number, mark, length):
        """Return the mark that comes out of a letter, and the number of the next state."""
        reached = []
        for table, state in zip(self._tables, self._states[number]):
            mark, state = table[state][(mark, length)]
            reached.append(state)
        return (mark, self._number_of(tuple(reached)))

    def _number_of(self, state):
        """Return the number of a state, which is a new one for a state that is come to for the first time."""
        if state not in self._numbers:
            self._numbers[state] = len(self._states)
            self._states.append(state)
        return self._numbers[state]


class Groups:
    """Things that are brought together into groups, at first each one in a group by itself."""

    def __init__(self):
        self._above = {}

    def unite(self, one, other):
        """Bring two things into one group, and tell whether they were in two."""
        one = self._head(one)
        other = self._head(other)
        if one == other:
            return False
        self._above[one] = other
        return True

    def _head(self, thing):
        """Return the thing that stands for a group."""
        above = self._above.get(thing, thing)
        while above != thing:
            # Each thing that is passed skips one, so that later ways are short.
            self._above[thing] = self._above.get(above, above)
            thing = self._above[thing]
            above = self._above.get(thing, thing)
        return thing


def parting_text(left, right, stock):
    """Return a text over a stock of which two rows of chains make unlike ones, with the fewest words, or None.

    States of both sides that are come to by one text are brought into a group. A pair that is in one group already
    is not gone on from: pairs ahead of it that link the two act unlike at least as soon.
    """
    # Without chains nothing is changed, as by the chain without steps.
    one = Relay(left if left else [Chain()], stock)
    other = Relay(right if right else [Chain()], stock)
    groups = Groups()
    pairs = [(0, 0)]
    ways = [None]
    at = 0
    while at < len(pairs):
        state, there = pairs[at]
        # Even numbers stand for the states of the one side, odd ones for those of the other.
        if groups.unite(2 * state, 2 * there + 1):
            letters = one.letters(state)
            for letter, (made, reached), (turned, ended) in zip(letters, one.reads(state), other.reads(there)):
                if made != turned:
                    return tokens_of(_letters_behind(ways, at) + [letter])
                pairs.append((reached, ended))
                ways.append((at, letter))
        at += 1
    return None


def _made_stock(table, stock):
    """Return the stock of the marks that come out of a table, with the lengths of a stock."""
    made = {mark: True for row in table for mark, _ in row.values()}
    lengths = stock.lengths()
    return Stock(list(made), shortest=lengths[0], longest=lengths[-1])


def _letters_behind(ways, at):
    """Return the letters that lead to a pair, told by its index."""
    letters = []
    while ways[at] is not None:
        at, letter = ways[at]
        letters.append(letter)
    return letters[::-1]
