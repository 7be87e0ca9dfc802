"""There and back: what a chain takes back of another one, and which marks can be told behind a chain."""

from reflows.errors import InvalidMark
from reflows.machines import Machine
from reflows.relays import parting_text
from reflows.runs import check_integer
from reflows.tables import check_chain, check_stock, table_of, token_of
from reflows.words import is_mark, mark_place

MOST_POWERS = 3


def takes_back(back, chain, stock, *, made_by=None):
    """Return None if a chain behind another one gives texts back, otherwise a text that shows that it does not."""
    check_chain(back)
    check_chain(chain)
    check_stock(stock)
    if made_by is None:
        return parting_text([chain, back], [], stock)
    check_chain(made_by)
    return parting_text([made_by, chain, back], [made_by], stock)


def restores(back, chain, stock):
    """Return None if a chain, then another one, then the chain again make what it makes alone, otherwise a text."""
    check_chain(back)
    check_chain(chain)
    check_stock(stock)
    return parting_text([chain, back, chain], [chain], stock)


def confused(chain, stock):
    """Return two texts with the fewest words that a chain confuses, or None."""
    machine = Machine(chain, stock)
    # Behind the first token that is unlike, both texts may end; and states are in the order of their shortest texts.
    for state, row in enumerate(table_of(machine)):
        found = {}
        for letter, (made, _) in row.items():
            first = found.setdefault((made, letter[1]), letter)
            if first != letter:
                ahead = machine.shortest(state)
                return (ahead + [token_of(first)], ahead + [token_of(letter)])
    return None


def never_told(chain, stock):
    """Return the classes of the marks of a stock that a chain never tells apart."""
    table = table_of(Machine(chain, stock))
    classes = {}
    for mark in stock.marks():
        # A paragraph's break acts in all states alike, so the state in which it alone is read need not be asked.
        acts = tuple([row[(mark, length)] for row in table[1:] for length in stock.lengths()])
        classes.setdefault(acts, []).append(mark)
    return list(classes.values())


def origins(chain, stock):
    """Return for each mark that a chain makes the list of the marks of the stock of which it comes."""
    table = table_of(Machine(chain, stock))
    pairs = {(made, mark): True for row in table for (mark, _), (made, _) in row.items()}
    found = {}
    for made, mark in sorted(list(pairs), key=_pair_place):
        found.setdefault(made, []).append(mark)
    return found


def origin_text(chain, stock, made, mark):
    """Return a text with the fewest words whose last mark becomes another one, or None."""
    machine = Machine(chain, stock)
    _check_mark(made)
    _check_mark(mark)
    for state, row in enumerate(table_of(machine)):
        for letter, (turned, _) in row.items():
            if letter[0] == mark and turned == made:
                return machine.shortest(state) + [token_of(letter)]
    return None


def powers(chain, stock, *, most=3):
    """Return the least n, then the least p, such that a chain done n + p times makes what it makes done n times."""
    check_chain(chain)
    check_stock(stock)
    check_integer(most, 1, MOST_POWERS)
    for many in range(most):
        for more in range(1, most - many + 1):
            if parting_text([chain] * (many + more), [chain] * many, stock) is None:
                return (many, more)
    return None


def _check_mark(value):
    """Raise InvalidMark if a value is not a mark."""
    if not is_mark(value):
        raise InvalidMark(value)


def _pair_place(pair):
    """Return the place of a pair of marks in their order."""
    made, mark = pair
    return (mark_place(made), mark_place(mark))
