"""Stocks: the marks and the lengths of words that texts are made of."""

from reflows.errors import InvalidMarks, InvalidStock, InvalidText, NoStock, NotOver
from reflows.runs import check_integer
from reflows.texts import is_text
from reflows.words import LONGEST_WORD, all_marks, is_integer, is_mark, kind_of, parse_integer, split_words

MOST_TOKENS = 300


class Stock:
    """A set of marks, with a paragraph's break among them, and a range of lengths of words."""

    def __init__(self, marks, *, shortest=1, longest=4):
        if not _are_marks(marks):
            raise InvalidMarks(marks)
        check_integer(shortest, 1, LONGEST_WORD)
        check_integer(longest, shortest, LONGEST_WORD)
        self._marks = [mark for mark in all_marks() if mark in marks]
        self._shortest = shortest
        self._longest = longest
        self._letters = [(mark, length) for mark in self._marks for length in range(shortest, longest + 1)]
        self._first_letters = [letter for letter in self._letters if kind_of(letter[0]) == "#"]

    @classmethod
    def parse(cls, text):
        """Return the stock with this text."""
        parts = split_words(text)
        if parts is None or len(parts) < 4:
            raise InvalidText(text)
        marks = [" " if part == "_" else part for part in parts[:-3]]
        shortest = parse_integer(parts[-2], low=1, high=LONGEST_WORD)
        longest = parse_integer(parts[-1], low=1, high=LONGEST_WORD)
        if not _are_marks(marks) or shortest is None or longest is None or shortest > longest:
            raise InvalidText(text)
        stock = cls(marks, shortest=shortest, longest=longest)
        # What is still wrong, as marks out of order, does not come back.
        if str(stock) != text:
            raise InvalidText(text)
        return stock

    def __eq__(self, other):
        # The letters tell both the marks and the lengths.
        return isinstance(other, Stock) and self._letters == other._letters

    def __len__(self):
        return len(self._letters)

    def __contains__(self, value):
        if not isinstance(value, tuple) or len(value) != 2:
            return False
        return value[0] in self._marks and is_integer(value[1], self._shortest, self._longest)

    def __and__(self, other):
        _check_stock(other)
        marks = [mark for mark in self._marks if mark in other._marks]
        shortest = max(self._shortest, other._shortest)
        longest = min(self._longest, other._longest)
        if not _are_marks(marks) or shortest > longest:
            raise NoStock()
        return Stock(marks, shortest=shortest, longest=longest)

    def __or__(self, other):
        _check_stock(other)
        shortest = min(self._shortest, other._shortest)
        longest = max(self._longest, other._longest)
        return Stock(self._marks + other._marks, shortest=shortest, longest=longest)

    def __str__(self):
        shown = ["_" if mark == " " else mark for mark in self._marks]
        return " ".join([*shown, ":", str(self._shortest), str(self._longest)])

    def marks(self):
        """Return the list of the marks, in order."""
        return list(self._marks)

    def lengths(self):
        """Return the list of the lengths, in order."""
        return list(range(self._shortest, self._longest + 1))

    def letters(self):
        """Return the list of the letters, in order."""
        return list(self._letters)

    def first_letters(self):
        """Return the list of the letters that a text can begin with, in order."""
        return list(self._first_letters)

    def within(self, other):
        """Tell whether another stock has all marks and all lengths of this one."""
        _check_stock(other)
        return all([letter in other for letter in self._letters])

    def holds(self, text):
        """Tell whether a text is over the stock."""
        if not is_text(text):
            raise InvalidText(text)
        return all([(mark, len(word)) in self for mark, word in text])

    def amount(self, many):
        """Return how many texts of so many tokens there are."""
        check_integer(many, 0, MOST_TOKENS)
        if many == 0:
            return 1
        found = len(self._first_letters)
        for _ in range(many - 1):
            found = found * len(self._letters)
        return found

    def texts(self, many):
        """Yield the texts of so many tokens, in ascending order."""
        for number in range(self.amount(many)):
            yield self._numbered_text(many, number)

    def text_at(self, many, number):
        """Return the text of so many tokens that has this index in ascending order."""
        check_integer(number, 0, self.amount(many) - 1)
        return self._numbered_text(many, number)

    def number_of(self, text):
        """Return the index of a text among the texts of as many tokens, in ascending order."""
        if not self.holds(text):
            raise NotOver(text)
        number = 0
        for index, (mark, word) in enumerate(text):
            letters = self._letters_at(index)
            number = number * len(letters) + letters.index((mark, len(word)))
        return number

    def _letters_at(self, index):
        """Return the letters that a text can have at an index."""
        return self._first_letters if index == 0 else self._letters

    def _numbered_text(self, many, number):
        """Do what text_at does, without checks."""
        text = []
        # The tokens are the digits of the number, the last one the lowest; so they are found from behind.
        for index in reversed(range(many)):
            letters = self._letters_at(index)
            number, place = divmod(number, len(letters))
            mark, length = letters[place]
            text.append((mark, "a" * length))
        return text[::-1]


def _are_marks(value):
    """Tell whether a value is a list of marks that a stock can have."""
    if not isinstance(value, (list, tuple)) or not all([is_mark(mark) for mark in value]):
        return False
    return any([kind_of(mark) == "#" for mark in value])


def _check_stock(value):
    """Raise InvalidStock if a value is not a stock."""
    if not isinstance(value, Stock):
        raise InvalidStock(value)
