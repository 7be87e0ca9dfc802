"""Ripples: how far one changed word, changed mark or new token changes the marks behind it."""

from reflows.errors import InvalidChange
from reflows.machines import Machine
from reflows.tables import table_of, tokens_of
from reflows.walks import END, Heaviest, heaviest_way, ring_of, way_to, ways_from
from reflows.words import kind_of

CHANGES = ("word", "mark", "token")


class Pairs:
    """The pairs of states of a least machine, behind the first token, as a graph: what becomes of two that read alike.

    An edge weighs 1 if unlike marks come out. Where both come to one state, nothing comes out otherwise any more.
    """

    def __init__(self, table):
        self._many = len(table)
        self._letters = _telling_letters(table)
        self._rows = [[row[letter] for letter in self._letters] for row in table[1:]]

    def node_of(self, one, other):
        """Return the node of a pair of states, in any order."""
        if one == other:
            return END
        return min(one, other) * self._many + max(one, other)

    def edges(self, node):
        """Return the edges from a pair."""
        one, other = divmod(node, self._many)
        found = []
        for letter, (made, reached), (turned, ended) in zip(self._letters, self._rows[one - 1], self._rows[other - 1]):
            found.append((0 if made == turned else 1, self.node_of(reached, ended), letter))
        return found


def ripple(chain, stock, change):
    """Return the greatest ripple that changes of texts have, or None if there is none."""
    table = table_of(Machine(chain, stock))
    _check_change(change)
    pairs = Pairs(table)
    starts = list(_starts(table, pairs, change))
    heaviest = Heaviest(pairs, starts)
    if heaviest.rising is not None:
        return None
    return max([heaviest.weights[node] for node in starts], default=0)


def ripple_paper(chain, stock, change):
    """Return two texts that show the greatest ripple, and a ring that shows that there is none, or None for 0."""
    machine = Machine(chain, stock)
    _check_change(change)
    table = table_of(machine)
    pairs = Pairs(table)
    starts = _starts(table, pairs, change)
    heaviest = Heaviest(pairs, list(starts))
    ring = []
    if heaviest.rising is not None:
        ring = ring_of(pairs, heaviest.rising)
        start, behind = way_to(ways_from(pairs, list(starts), heaviest.rising[0]), heaviest.rising[0])
    else:
        start = max(list(starts), key=lambda node: heaviest.weights[node], default=END)
        if heaviest.weights[start] == 0:
            return None
        behind = heaviest_way(pairs, heaviest.weights, start)
    state, one, other = starts[start]
    ahead = machine.shortest(state)
    return (ahead + tokens_of(one + behind), ahead + tokens_of(other + behind), tokens_of(ring))


def stops(chain, stock):
    """Return the letters behind which the least machine is always in one state."""
    table = table_of(Machine(chain, stock))
    # The first state reads no letter that the others do not read, and as they do.
    return [letter for letter in table[1] if all([row[letter][1] == table[1][letter][1] for row in table[1:]])]


def meeting(chain, stock):
    """Return tokens without a paragraph's break behind which the least machine is always in one state, or None."""
    table = table_of(Machine(chain, stock))
    pairs = Pairs(table)
    states = list(range(1, len(table)))
    met = []
    while len(states) > 1:
        letters = _meeting_letters(table, pairs, states)
        if letters is None:
            return None
        met.extend(letters)
        for letter in letters:
            states = sorted({table[state][letter][1] for state in states})
    return tokens_of(met)


def _check_change(value):
    """Raise InvalidChange if a value is not one of the three words."""
    if value not in CHANGES:
        raise InvalidChange(value)


def _telling_letters(table):
    """Return the letters that may act otherwise in some states than in others, one of those that act alike."""
    found = {}
    for letter in table[1]:
        acts = tuple([row[letter] for row in table[1:]])
        # Behind a paragraph's break nothing differs; it must not be used by a meeting either.
        if acts not in found and kind_of(letter[0]) != "#":
            found[acts] = letter
    return list(found.values())


def _starts(table, pairs, change):
    """Return for each pair of states behind a change the state ahead of it, and the letters there in both texts."""
    found = {}
    for state, row in enumerate(table):
        for one, other in _changed_letters(row, state, change):
            node = pairs.node_of(_behind(table, state, one), _behind(table, state, other))
            if node != END and node not in found:
                found[node] = (state, one, other)
    return found


def _changed_letters(row, state, change):
    """Return pairs of what is read in both texts from a state on: lists of one letter, or of none."""
    if change == "token":
        return [([], [letter]) for letter in row] if state > 0 else []
    # Of a word the mark stays, of a mark the length.
    kept = 0 if change == "word" else 1
    letters = list(row)
    return [
        ([one], [other]) for place, one in enumerate(letters) for other in letters[:place] if one[kept] == other[kept]
    ]


def _behind(table, state, letters):
    """Return the state behind letters."""
    for letter in letters:
        state = table[state][letter][1]
    return state


def _meeting_letters(table, pairs, states):
    """Return letters behind which fewer states are left than there are, or None if there are none."""
    for letter in table[1]:
        if kind_of(letter[0]) != "#" and len({table[state][letter][1] for state in states}) < len(states):
            return [letter]
    node = pairs.node_of(states[0], states[1])
    ways = ways_from(pairs, [node], END)
    if END not in ways:
        return None
    _, letters = way_to(ways, END)
    return letters
