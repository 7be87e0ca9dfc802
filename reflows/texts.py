"""Texts, their lines, their pages and their writings."""

from reflows.errors import InvalidInteger, InvalidMarks, InvalidPage, InvalidText, InvalidWords
from reflows.words import (
    DEEPEST, LETTERS, break_of, indent_of, is_integer, is_mark, is_token, is_word, kind_of, split_words,
)


def is_text(value):
    """Tell whether a value is a text."""
    if not isinstance(value, (list, tuple)) or not all([is_token(token) for token in value]):
        return False
    return _is_mark_row([token[0] for token in value])


def text_of(marks, words):
    """Return the text that has these marks and words."""
    if not _is_mark_row(marks):
        raise InvalidMarks(marks)
    if not _is_word_row(words) or len(words) != len(marks):
        raise InvalidWords(words)
    return [(mark, word) for mark, word in zip(marks, words)]


def marks_of(text):
    """Return the list of the marks of a text."""
    _check_text(text)
    return [token[0] for token in text]


def lengths_of(text):
    """Return the list of the lengths of the words of a text."""
    _check_text(text)
    return [len(token[1]) for token in text]


def unlike_marks(one, other):
    """Return the list of the indexes at which two texts with words of the same lengths have unlike marks."""
    # What is no text raises in lengths_of, the first one first.
    if lengths_of(one) != lengths_of(other):
        raise InvalidText(other)
    return [index for index in range(len(one)) if one[index][0] != other[index][0]]


def lines(text):
    """Yield the lines of a text, each as a list of its tokens."""
    _check_text(text)
    line = []
    # A copy is gone through: the caller may change the list between two lines.
    for token in list(text):
        if token[0] != " " and line:
            yield line
            line = []
        line.append(token)
    if line:
        yield line


def widths(text):
    """Return the list of the widths of the lines of a text."""
    return [_line_width(line) for line in lines(text)]


def columns(text):
    """Return for each token the width that its line has up to and including its word."""
    _check_text(text)
    reached = []
    width = 0
    for mark, word in text:
        start = width + 1 if mark == " " else indent_of(mark)
        width = start + len(word)
        reached.append(width)
    return reached


def place_of(text, index):
    """Return the index of the line of a token, and the index of the token in its line."""
    _check_text(text)
    if not is_integer(index, 0, len(text) - 1):
        raise InvalidInteger(index)
    line = -1
    place = 0
    for token in text[:index + 1]:
        if token[0] == " ":
            place += 1
        else:
            line += 1
            place = 0
    return (line, place)


def page(text):
    """Return the page of a text."""
    rows = []
    for line in lines(text):
        kind = kind_of(line[0][0])
        if kind == "/":
            rows[-1] = rows[-1] + " "
        if kind == "#" and rows:
            rows.append("")
        rows.append(_page_row(line))
    return "\n".join(rows)


def read_page(page):
    """Return the text with this page."""
    if not isinstance(page, str):
        raise InvalidPage(0)
    # Split, the empty string would be one empty row; but it is the page of the text without lines.
    rows = [] if page == "" else page.split("\n")
    # At both ends an empty row stands for the missing neighbour: it makes the same rows wrong.
    framed = ["", *rows, ""]
    text = []
    for index in range(len(rows)):
        ahead, row, behind = framed[index:index + 3]
        if not _is_right_row(ahead, row, behind):
            raise InvalidPage(index)
        if row != "":
            text.extend(_row_tokens(ahead, row))
    return text


def write_text(text):
    """Return the writing of a text."""
    _check_text(text)
    return "".join([mark + word for mark, word in text])


def read_text(writing):
    """Return the text with this writing."""
    if not isinstance(writing, str):
        raise InvalidText(writing)
    text = []
    start = 0
    while start < len(writing):
        mark, word = _pair_at(writing, start)
        text.append((mark, word))
        start = start + len(mark) + len(word)
    # A wrong writing has come apart into pairs that are no tokens of a text.
    if not is_text(text):
        raise InvalidText(writing)
    return text


def _check_text(text):
    """Raise InvalidText if a value is not a text."""
    if not is_text(text):
        raise InvalidText(text)


def _is_mark_row(value):
    """Tell whether a value is a list of marks that a text can have."""
    if not isinstance(value, (list, tuple)) or not all([is_mark(mark) for mark in value]):
        return False
    return len(value) == 0 or kind_of(value[0]) == "#"


def _is_word_row(value):
    """Tell whether a value is a list of words."""
    return isinstance(value, (list, tuple)) and all([is_word(word) for word in value])


def _line_width(line):
    """Return the width of a line."""
    blanks = len(line) - 1
    return indent_of(line[0][0]) + sum([len(token[1]) for token in line]) + blanks


def _page_row(line):
    """Return a line as its page shows it, without what the next line adds."""
    return " " * indent_of(line[0][0]) + " ".join([token[1] for token in line])


def _is_right_row(ahead, row, behind):
    """Tell whether a line of a page is right between its neighbours."""
    if row == "":
        return ahead != "" and behind != ""
    if row.endswith(" ") and behind != "":
        row = row[:-1]
    return _row_indent(row) <= DEEPEST and _is_word_row(split_words(row.lstrip(" ")))


def _row_indent(row):
    """Return the number of the spaces at the beginning of a line of a page."""
    return len(row) - len(row.lstrip(" "))


def _row_tokens(ahead, row):
    """Return the tokens of a right line of a page; the line ahead of it tells its kind."""
    if ahead == "":
        kind = "#"
    elif ahead.endswith(" "):
        kind = "/"
    else:
        kind = "|"
    first, *rest = split_words(row.strip(" "))
    return [(break_of(kind, _row_indent(row)), first)] + [(" ", word) for word in rest]


def _pair_at(writing, start):
    """Return what stands in a writing where a mark should begin, and the letters directly behind it."""
    begin = start + 1 if writing[start] == " " else start + 2
    end = begin
    while end < len(writing) and writing[end] in LETTERS:
        end += 1
    return (writing[start:begin], writing[begin:end])
