"""Chains that do the same with all texts over a stock, and texts that show where they part."""

from reflows.chains import Chain
from reflows.machines import Machine
from reflows.relays import parting_text
from reflows.tables import check_chain, check_stock


def alike(one, other, stock):
    """Return None if two chains make the same of every text, otherwise a text of which they do not."""
    _check_pair(one, other, stock)
    return parting_text([one], [other], stock)


def settles(chain, stock):
    """Return None if a chain, done twice, makes the same as done once, otherwise a text of which it does not."""
    check_chain(chain)
    check_stock(stock)
    return parting_text([chain, chain], [chain], stock)


def exchange(one, other, stock):
    """Return None if two chains make the same in both orders, otherwise a text of which they do not."""
    _check_pair(one, other, stock)
    return parting_text([one, other], [other, one], stock)


def swallows(one, other, stock):
    """Return None if one chain behind the other makes what it makes alone, otherwise a text of which it does not."""
    _check_pair(one, other, stock)
    return parting_text([other, one], [one], stock)


def idle_steps(chain, stock):
    """Return the indexes of the steps without which, each by itself, a chain makes the same of every text."""
    machine = Machine(chain, stock)
    return [index for index in range(len(chain)) if Machine(chain.without(index), stock) == machine]


def fewest_steps(chain, stock):
    """Return the chain of the fewest steps of a chain that makes the same of every text."""
    machine = Machine(chain, stock)
    for steps in sorted(_parts(chain), key=len):
        shorter = Chain(steps)
        if Machine(shorter, stock) == machine:
            return shorter
    return chain


def _check_pair(one, other, stock):
    """Raise what is due if one of the first two is not a chain, or the last one not a stock."""
    check_chain(one)
    check_chain(other)
    check_stock(stock)


def _parts(chain):
    """Return the lists of the steps that are left of a chain if any of them are left out."""
    parts = [[]]
    for step in chain:
        parts = parts + [part + [step] for part in parts]
    return parts
