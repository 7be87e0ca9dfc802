"""Integers, words, marks and tokens, and small strings that are parsed."""

from reflows.errors import InvalidInteger, InvalidMark

LETTERS = "abcdefghijklmnopqrstuvwxyz"
DIGITS = "0123456789"
LONGEST_WORD = 30
DEEPEST = 3
KINDS = ("#", "|", "/")
# All marks, in their order, each with its place in it.
MARK_PLACES = {
    " ": 0,
    "#0": 1, "#1": 2, "#2": 3, "#3": 4,
    "|0": 5, "|1": 6, "|2": 7, "|3": 8,
    "/0": 9, "/1": 10, "/2": 11, "/3": 12,
}


def is_integer(value, low, high):
    """Tell whether a value is an integer from low to high."""
    return _is_whole(value) and low <= value <= high


def is_word(value):
    """Tell whether a value is a word."""
    return isinstance(value, str) and 1 <= len(value) <= LONGEST_WORD and _has_only(value, LETTERS)


def is_mark(value):
    """Tell whether a value is a mark."""
    # What is no string may have no hash, so it is never looked up.
    return isinstance(value, str) and value in MARK_PLACES


def is_token(value):
    """Tell whether a value is a token."""
    return isinstance(value, tuple) and len(value) == 2 and is_mark(value[0]) and is_word(value[1])


def kind_of(mark):
    """Return the kind of a break, and a blank for a blank."""
    if not is_mark(mark):
        raise InvalidMark(mark)
    return mark[0]


def indent_of(mark):
    """Return the indentation of a break, and 0 for a blank."""
    if not is_mark(mark):
        raise InvalidMark(mark)
    return 0 if mark == " " else int(mark[1])


def mark_place(mark):
    """Return the index of a mark in the order of all marks."""
    if not is_mark(mark):
        raise InvalidMark(mark)
    return MARK_PLACES[mark]


def all_marks():
    """Return the list of all marks, in order."""
    return list(MARK_PLACES)


def break_of(kind, indent):
    """Return the break of a kind with an indentation, which is brought between 0 and 3."""
    if kind not in KINDS:
        raise InvalidMark(kind)
    if not _is_whole(indent):
        raise InvalidInteger(indent)
    return kind + str(max(0, min(DEEPEST, indent)))


def parse_integer(text, *, low=0, high=999):
    """Return the integer from low to high that a string represents, or None."""
    if not _is_numeral(text):
        return None
    # What has more digits than both bounds is outside of them, and int refuses thousands of digits.
    if len(text.lstrip("-")) > max(len(str(abs(low))), len(str(abs(high)))):
        return None
    number = int(text)
    return number if low <= number <= high else None


def split_words(text):
    """Return the list of the parts of a line that stand between single spaces, or None."""
    if not isinstance(text, str) or "\n" in text:
        return None
    parts = text.split(" ")
    return None if "" in parts else parts


def _is_whole(value):
    """Tell whether a value is an integer; True and False are none."""
    return isinstance(value, int) and not isinstance(value, bool)


def _has_only(text, characters):
    """Tell whether a string has no other characters than these."""
    return all([character in characters for character in text])


def _is_numeral(text):
    """Tell whether a value is a string that represents an integer."""
    if not isinstance(text, str):
        return False
    digits = text[1:] if text.startswith("-") else text
    if not _has_only(digits, DIGITS):
        return False
    return text == "0" or (digits != "" and digits[0] != "0")
