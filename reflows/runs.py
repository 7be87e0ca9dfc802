"""What steps and chains share: the checks of what they are given, and the run over a whole text."""

from reflows.errors import InvalidInteger, InvalidMark, InvalidState, InvalidText
from reflows.texts import is_text
from reflows.words import LONGEST_WORD, is_integer, is_mark


def check_integer(value, low, high):
    """Raise InvalidInteger if a value is not an integer from low to high."""
    if not is_integer(value, low, high):
        raise InvalidInteger(value)


def check_reading(begin, state, mark, length):
    """Raise what a read of these arguments raises; begin is the state ahead of the first token."""
    if not _is_state(state, len(begin)):
        raise InvalidState(state)
    if not is_mark(mark):
        raise InvalidMark(mark)
    check_integer(length, 1, LONGEST_WORD)


def run_tokens(step, text):
    """Return the text that a step or a chain makes of a text."""
    if not is_text(text):
        raise InvalidText(text)
    state = step.begin()
    made = []
    for mark, word in text:
        turned, state = step.advance(state, mark, len(word))
        made.append((turned, word))
    return made


def _is_state(value, many):
    """Tell whether a value is a tuple of so many integers."""
    if not isinstance(value, tuple) or len(value) != many:
        return False
    return all([isinstance(item, int) and not isinstance(item, bool) for item in value])
