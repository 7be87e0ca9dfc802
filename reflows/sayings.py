"""Patterns: rows of marks and lengths that come in what a chain makes, or never do."""

from reflows.errors import InvalidRow, InvalidText
from reflows.machines import Machine
from reflows.tables import table_of, tokens_of
from reflows.texts import is_text
from reflows.walks import END, way_to, ways_from
from reflows.words import LONGEST_WORD, is_integer, is_mark

MOST_ITEMS = 6
# The state ahead of the first token; nothing has begun there.
START = (0, ())


class Begun:
    """What is begun of a pattern while texts are read, as a graph.

    Its nodes are tuples of a state and a tuple of the numbers that are begun. It ends where the pattern does.
    """

    def __init__(self, table, pattern):
        self._table = table
        self._pattern = pattern
        self._begun_next = {}

    def edges(self, node):
        """Return the edges from a node, all without weight."""
        state, begun = node
        found = []
        for letter, (made, reached) in self._table[state].items():
            numbers = self._next_numbers(begun, made, letter[1])
            found.append((0, END if len(self._pattern) in numbers else (reached, numbers), letter))
        return found

    def _next_numbers(self, begun, mark, length):
        """Return the numbers that are begun behind a token that is made, with that of all items if it ends them."""
        key = (begun, mark, length)
        if key not in self._begun_next:
            tried = [0, *begun]
            self._begun_next[key] = tuple([k + 1 for k in tried if _is_of(mark, length, self._pattern[k])])
        return self._begun_next[key]


def is_pattern(value):
    """Tell whether a value is a pattern."""
    if not isinstance(value, (list, tuple)) or not 1 <= len(value) <= MOST_ITEMS:
        return False
    return all([_is_item(item) for item in value])


def pattern_places(text, pattern):
    """Yield the indexes at which a text has a pattern."""
    if not is_text(text):
        raise InvalidText(text)
    _check_pattern(pattern)
    # Copies are gone through: the caller may change the lists between two indexes.
    tokens = list(text)
    items = [(list(marks), shortest, longest) for marks, shortest, longest in pattern]
    for index in range(len(tokens) - len(items) + 1):
        if _has_at(tokens, index, items):
            yield index


def comes(pattern, chain, stock):
    """Return a text with the fewest words of which a chain makes one that has a pattern, or None."""
    _check_pattern(pattern)
    ways = ways_from(Begun(table_of(Machine(chain, stock)), pattern), [START], END)
    if END not in ways:
        return None
    _, letters = way_to(ways, END)
    return tokens_of(letters)


def never_paper(pattern, chain, stock):
    """Return tuples of states and begun numbers which show that a pattern never comes, or None if it comes."""
    _check_pattern(pattern)
    ways = ways_from(Begun(table_of(Machine(chain, stock)), pattern), [START], END)
    if END in ways:
        return None
    return [(state, list(begun)) for state, begun in ways]


def is_never_paper(pattern, chain, stock, value):
    """Tell whether any value shows that a pattern never comes."""
    _check_pattern(pattern)
    table = table_of(Machine(chain, stock))
    if not isinstance(value, (list, tuple)) or not all([_is_stage(item, table, pattern) for item in value]):
        return False
    nodes = {(state, tuple(begun)): True for state, begun in value}
    graph = Begun(table, pattern)
    # What ends the pattern leads to END, which is never among the nodes.
    closed = all([target in nodes for node in nodes for _, target, _ in graph.edges(node)])
    return closed and START in nodes


def _check_pattern(value):
    """Raise InvalidRow if a value is not a pattern."""
    if not is_pattern(value):
        raise InvalidRow(value)


def _is_item(value):
    """Tell whether a value is an item of a pattern."""
    if not isinstance(value, tuple) or len(value) != 3:
        return False
    marks, shortest, longest = value
    if not is_integer(shortest, 1, LONGEST_WORD) or not is_integer(longest, shortest, LONGEST_WORD):
        return False
    return _are_unlike_marks(marks)


def _are_unlike_marks(value):
    """Tell whether a value is a list of one or more different marks."""
    if not isinstance(value, (list, tuple)) or not all([is_mark(mark) for mark in value]):
        return False
    return len(value) > 0 and len(set(value)) == len(value)


def _is_of(mark, length, item):
    """Tell whether a token with a mark and a word of a length is of an item."""
    marks, shortest, longest = item
    return mark in marks and shortest <= length <= longest


def _has_at(tokens, index, items):
    """Tell whether the tokens from an index on are of the items, one after another."""
    return all([_is_of(mark, len(word), item) for (mark, word), item in zip(tokens[index:], items)])


def _is_stage(value, table, pattern):
    """Tell whether a value is a tuple of a state and an ascending list of numbers that can be begun."""
    if not isinstance(value, tuple) or len(value) != 2 or not is_integer(value[0], 0, len(table) - 1):
        return False
    begun = value[1]
    if not isinstance(begun, (list, tuple)) or not all([is_integer(k, 1, len(pattern) - 1) for k in begun]):
        return False
    return list(begun) == sorted(set(begun))
