"""How wide lines get, and how many lines come of many words."""

from math import gcd

from reflows.machines import Machine
from reflows.tables import table_of, tokens_of
from reflows.texts import is_text
from reflows.walks import Heaviest, heaviest_way, ring_of
from reflows.words import indent_of, is_token


class Blanks:
    """The states of a least machine behind the first token, as a graph whose edges make blanks: a line goes on."""

    def __init__(self, table):
        self._table = table

    def edges(self, node):
        """Return the edges from a state, each with what a line gets wider by it."""
        found = []
        for letter, (made, reached) in self._table[node].items():
            if made == " ":
                found.append((1 + letter[1], reached, letter))
        return found


def widest(chain, stock):
    """Return the greatest width of a line that a chain makes, or None if there is none."""
    table = table_of(Machine(chain, stock))
    heaviest = _heaviest_lines(table)
    if heaviest.rising is not None:
        return None
    return max([width + heaviest.weights[reached] for width, reached, _, _ in _line_starts(table)])


def widest_paper(chain, stock):
    """Return a text whose last line has the greatest width, or one behind which a ring of tokens makes blanks alone."""
    machine = Machine(chain, stock)
    table = table_of(machine)
    heaviest = _heaviest_lines(table)
    if heaviest.rising is not None:
        ring = ring_of(Blanks(table), heaviest.rising)
        return (machine.shortest(heaviest.rising[0]), tokens_of(ring))
    starts = _line_starts(table)
    _, reached, state, letter = max(starts, key=lambda start: start[0] + heaviest.weights[start[1]])
    letters = [letter] + heaviest_way(Blanks(table), heaviest.weights, reached)
    return (machine.shortest(state) + tokens_of(letters), [])


def line_share(chain, stock, *, most=False):
    """Return the least share of breaks that a chain makes, or the greatest one, in lowest terms."""
    share, _, _ = _share(table_of(Machine(chain, stock)), most)
    return share


def share_paper(chain, stock, *, most=False):
    """Return a text, a ring of tokens, and heights of the states, which show a share."""
    machine = Machine(chain, stock)
    _, ring, heights = _share(table_of(machine), most)
    return (machine.shortest(ring[0][0]), tokens_of([letter for _, _, _, letter in ring]), heights)


def is_share_paper(chain, stock, value, *, most=False):
    """Tell whether any value is a text, a ring and heights that show a share."""
    table = table_of(Machine(chain, stock))
    if not isinstance(value, tuple) or len(value) != 3:
        return False
    text, ring, heights = value
    if not is_text(text) or not stock.holds(text) or not _is_ring(ring, stock) or not _are_heights(heights, table):
        return False
    state, _ = _run(table, 0, text)
    reached, breaks = _run(table, state, ring)
    # Behind the text without tokens the machine is in a state to which nothing leads back.
    return state > 0 and reached == state and _holds(table, _lowest(breaks, len(ring)), heights, most)


def _heaviest_lines(table):
    """Return the search for the widest lines that go on from each state."""
    return Heaviest(Blanks(table), list(range(1, len(table))))


def _line_starts(table):
    """Return for each letter that makes a break the width of the new line, the next state, the state and the letter."""
    starts = []
    for state, row in enumerate(table):
        for letter, (made, reached) in row.items():
            if made != " ":
                starts.append((indent_of(made) + letter[1], reached, state, letter))
    return starts


def _lowest(breaks, words):
    """Return a share in lowest terms."""
    common = gcd(breaks, words)
    return (breaks // common, words // common)


def _share(table, most):
    """Return a share, the edges of a ring that has it, and the heights that show that there is no further one."""
    edges = _edges(table, most)
    # Each ring is better than a share of 2 or of -1; so the search begins there, and goes on from ring to ring.
    share = (-1, 1) if most else (2, 1)
    ring = []
    while True:
        heights, found = _settled(edges, _costs(share, most), len(table))
        if not found:
            return (share, ring, [-height for height in heights] if most else heights)
        ring = found
        share = _lowest(sum([broken for _, _, broken, _ in ring]), len(ring))


def _edges(table, most):
    """Return tuples of a state, the next one, 1 for a break and 0 for a blank, and the letter: the best ones alone."""
    best = 1 if most else 0
    found = {}
    for state, row in enumerate(table):
        for letter, (made, reached) in row.items():
            broken = 0 if made == " " else 1
            if (state, reached) not in found or broken == best:
                found[(state, reached)] = (state, reached, broken, letter)
    return list(found.values())


def _costs(share, most):
    """Return what a blank and what a break costs: a ring that is better than the share costs less than nothing."""
    breaks, words = share
    return (breaks, breaks - words) if most else (-breaks, words - breaks)


def _settled(edges, costs, many):
    """Return heights that no edge lowers and an empty list, or some heights and a ring that costs less than nothing."""
    heights = [0] * many
    lowered = [None] * many
    ring = []
    settled = False
    while not settled and not ring:
        settled = True
        for edge in edges:
            state, reached, broken, _ = edge
            height = heights[state] + costs[broken]
            if height < heights[reached]:
                heights[reached] = height
                lowered[reached] = edge
                settled = False
        ring = _ring_in(lowered)
    return (heights, ring)


def _ring_in(lowered):
    """Return the edges of a ring among those by which states were lowered last, or an empty list."""
    passed = {}
    for start in range(len(lowered)):
        state = start
        while state not in passed and lowered[state] is not None:
            passed[state] = start
            state = lowered[state][0]
        # What was passed from here itself, and not from a state ahead of it, is a ring.
        if lowered[state] is not None and passed[state] == start:
            ring = [lowered[state]]
            while ring[-1][0] != state:
                ring.append(lowered[ring[-1][0]])
            return ring[::-1]
    return []


def _is_ring(value, stock):
    """Tell whether a value is a list of one or more tokens over a stock."""
    if not isinstance(value, (list, tuple)) or len(value) == 0:
        return False
    return all([is_token(token) and (token[0], len(token[1])) in stock for token in value])


def _are_heights(value, table):
    """Tell whether a value is a list of one integer for each state."""
    if not isinstance(value, (list, tuple)) or len(value) != len(table):
        return False
    return all([isinstance(height, int) and not isinstance(height, bool) for height in value])


def _run(table, state, tokens):
    """Return the state behind tokens, and the number of the breaks that are made of them."""
    breaks = 0
    for mark, word in tokens:
        # In the first state a ring may begin with what is not read there; then it is not gone on.
        if (mark, len(word)) not in table[state]:
            return (0, 0)
        made, state = table[state][(mark, len(word))]
        breaks += 0 if made == " " else 1
    return (state, breaks)


def _holds(table, share, heights, most):
    """Tell whether heights show that no text has a further share."""
    costs = _costs(share, most)
    sign = -1 if most else 1
    for state, row in enumerate(table):
        for made, reached in row.values():
            cost = costs[0 if made == " " else 1]
            if cost + sign * (heights[state] - heights[reached]) < 0:
                return False
    return True
