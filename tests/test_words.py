"""Points [12], [13] and [14]: integers, words, marks, tokens and small strings."""

import re
import unittest

from reflows.errors import InvalidInteger, InvalidMark
from reflows.words import (
    all_marks, break_of, indent_of, is_integer, is_mark, is_token, is_word, kind_of, mark_place, parse_integer,
    split_words,
)
from tests.helper import ODD_VALUES, check_new_list, check_raises, strings

MARKS = [" ", "#0", "#1", "#2", "#3", "|0", "|1", "|2", "|3", "/0", "/1", "/2", "/3"]

NO_MARKS = ODD_VALUES + [
    0, 2, -1, "", "  ", "#", "|", "/", "#4", "|4", "/4", "/9", "/-1", "#00", " 0", "0", "2/", "/a", "/ ", "\n", "/2\n",
    " /2", "_", ["/2"], ("/2",), ["/", "2"], {"/2": 0},
]

THIRTY = 10 ** 29 + 7


class ExampleTest(unittest.TestCase):
    def test_values(self):
        found = [is_mark("|2"), is_mark("|4"), is_mark(" "), is_token(("/0", "ab")), is_token(["/0", "ab"]),
                 is_word("a b")]
        self.assertEqual(found, [True, False, True, True, False, False])

    def test_marks(self):
        found = [kind_of("/2"), indent_of("/2"), mark_place("#0"), mark_place("/3"), break_of("|", 7),
                 break_of("#", -1)]
        self.assertEqual(found, ["/", 2, 1, 12, "|3", "#0"])

    def test_parsing(self):
        found = [parse_integer("07"), parse_integer("-7", low=-9), parse_integer("-0", low=-9), split_words("a  b")]
        self.assertEqual(found, [None, -7, None, None])


class IntegerTest(unittest.TestCase):
    def test_integers_between_the_bounds(self):
        for value in range(-5, 6):
            for low in range(-4, 5):
                for high in range(-4, 5):
                    self.assertIs(is_integer(value, low, high), value in range(low, high + 1))

    def test_a_low_bound_above_the_high_one(self):
        self.assertIs(is_integer(5, 6, 4), False)
        self.assertIs(is_integer(5, 5, 4), False)
        self.assertIs(is_integer(True, 6, 4), False)

    def test_true_and_false_are_no_integers(self):
        self.assertIs(is_integer(True, 0, 5), False)
        self.assertIs(is_integer(False, 0, 5), False)

    def test_integers_of_thirty_digits(self):
        self.assertIs(is_integer(THIRTY, THIRTY, THIRTY), True)
        self.assertIs(is_integer(THIRTY, 0, THIRTY - 1), False)
        self.assertIs(is_integer(-THIRTY, -THIRTY, 0), True)
        self.assertIs(is_integer(-THIRTY, 1 - THIRTY, 0), False)

    def test_other_values(self):
        for value in ODD_VALUES + ["1", "", " ", [1], (1,), {1: 1}]:
            self.assertIs(is_integer(value, -9, 9), False)

    def test_parameter_names(self):
        self.assertIs(is_integer(value=3, low=3, high=3), True)


class WordTest(unittest.TestCase):
    def test_lengths(self):
        found = [many for many in range(40) if is_word("z" * many)]
        self.assertEqual(found, list(range(1, 31)))
        self.assertIs(is_word("a"), True)
        self.assertIs(is_word("a" * 31), False)

    def test_characters(self):
        characters = [chr(code) for code in [10] + list(range(32, 127))]
        found = [character for character in characters if is_word(character)]
        self.assertEqual("".join(found), "abcdefghijklmnopqrstuvwxyz")
        for character in characters:
            letter = character in "abcdefghijklmnopqrstuvwxyz"
            self.assertIs(is_word("a" + character), letter)
            self.assertIs(is_word(character + "z"), letter)

    def test_other_values(self):
        for value in ODD_VALUES + [0, 1, "", "a b", "ab\n", ["a"], ("a",), ["a", "b"], {"a": "b"}]:
            self.assertIs(is_word(value), False)

    def test_parameter_name(self):
        self.assertIs(is_word(value="ab"), True)


class MarkTest(unittest.TestCase):
    def test_all_marks(self):
        self.assertEqual(all_marks(), MARKS)
        check_new_list(self, all_marks)

    def test_is_mark(self):
        for mark in MARKS:
            self.assertIs(is_mark(mark), True)
        for value in NO_MARKS:
            self.assertIs(is_mark(value), False)
        self.assertIs(is_mark(value="/2"), True)

    def test_is_mark_of_all_short_strings(self):
        found = [text for text in strings(" #|/0123456789a\n-", 3) if is_mark(text)]
        self.assertEqual(sorted(found), sorted(MARKS))

    def test_kind_of(self):
        self.assertEqual([kind_of(mark) for mark in MARKS], [" "] + ["#"] * 4 + ["|"] * 4 + ["/"] * 4)
        self.assertEqual(kind_of(mark="|1"), "|")

    def test_indent_of(self):
        self.assertEqual([indent_of(mark) for mark in MARKS], [0] + [0, 1, 2, 3] * 3)
        self.assertEqual(indent_of(mark="|1"), 1)
        self.assertNotIsInstance(indent_of("|1"), bool)

    def test_mark_place(self):
        self.assertEqual([mark_place(mark) for mark in MARKS], list(range(13)))
        self.assertEqual(mark_place(mark="|1"), 6)

    def test_invalid_marks(self):
        for call in (kind_of, indent_of, mark_place):
            for value in NO_MARKS:
                check_raises(self, InvalidMark, "value", value, call, value)


class TokenTest(unittest.TestCase):
    def test_all_marks_with_words(self):
        for mark in MARKS:
            for many in range(33):
                self.assertIs(is_token((mark, "a" * many)), 1 <= many <= 30)

    def test_other_values(self):
        values = ODD_VALUES + [
            0, "", "/0", "/0a", " a", ["/0", "ab"], ("/0",), ("/0", "ab", "c"), ("ab", "/0"), ("/4", "ab"),
            ("/0", "a b"), ("/0", ""), ("/0", None), (None, "ab"), (["/0"], "ab"), ("/0", ["ab"]), (0, "ab"),
            {"/0": "ab"}, [("/0", "ab")], (("/0", "ab"),), ("/", "0"), "ab",
        ]
        for value in values:
            self.assertIs(is_token(value), False)

    def test_parameter_name(self):
        self.assertIs(is_token(value=(" ", "ab")), True)


class BreakTest(unittest.TestCase):
    def test_indentations_within_bounds(self):
        found = [break_of(kind, indent) for kind in "#|/" for indent in range(4)]
        self.assertEqual(found, MARKS[1:])

    def test_indentations_out_of_bounds(self):
        for kind in "#|/":
            for indent in (-1, -2, -10, -THIRTY):
                self.assertEqual(break_of(kind, indent), kind + "0")
            for indent in (4, 5, 10, THIRTY):
                self.assertEqual(break_of(kind, indent), kind + "3")

    def test_parameter_names(self):
        self.assertEqual(break_of(kind="/", indent=2), "/2")

    def test_invalid_kinds(self):
        for kind in ODD_VALUES + [0, 1, "", " ", "#|", "|/", "#|/", "#0", "x", ["#"], ("#",), {"#": 1}]:
            check_raises(self, InvalidMark, "value", kind, break_of, kind, 1)

    def test_invalid_indentations(self):
        for indent in ODD_VALUES + ["", "1", [1], (1,), {1: 1}]:
            check_raises(self, InvalidInteger, "value", indent, break_of, "#", indent)

    def test_the_kind_is_checked_first(self):
        kind = ["#"]
        check_raises(self, InvalidMark, "value", kind, break_of, kind, None)
        check_raises(self, InvalidMark, "value", " ", break_of, indent=True, kind=" ")


class ParseIntegerTest(unittest.TestCase):
    def test_all_short_strings(self):
        for text in strings("-019 +_a\n", 4):
            good = re.fullmatch("0|-?[1-9][0-9]*", text)
            expected = int(text) if good else None
            self.assertEqual(parse_integer(text, low=-9999, high=9999), expected, repr(text))

    def test_all_characters(self):
        for code in [10] + list(range(32, 127)):
            expected = int("1" + chr(code)) if chr(code) in "0123456789" else None
            self.assertEqual(parse_integer("1" + chr(code)), expected)

    def test_default_bounds(self):
        found = [parse_integer(text) for text in ("0", "999", "1000", "-1", "5")]
        self.assertEqual(found, [0, 999, None, None, 5])

    def test_bounds(self):
        for number in range(-12, 13):
            for low in (-11, -9, 0, 5, 10):
                for high in (-10, -1, 0, 5, 9, 11):
                    found = parse_integer(str(number), low=low, high=high)
                    self.assertEqual(found, number if low <= number <= high else None)

    def test_one_bound(self):
        self.assertEqual(parse_integer("1000", high=1000), 1000)
        self.assertEqual(parse_integer("-3", low=-3), -3)
        self.assertIsNone(parse_integer("4", low=5))

    def test_a_low_bound_above_the_high_one(self):
        self.assertIsNone(parse_integer("5", low=6, high=4))
        self.assertIsNone(parse_integer("5", low=1000))

    def test_leading_zeros(self):
        for text in ("00", "01", "-0", "-00", "-01", "007", "-", "--1", "-+1", "+1", "1-", "1 ", " 1", "1\n", ""):
            self.assertIsNone(parse_integer(text, low=-9), text)

    def test_integers_of_thirty_digits(self):
        self.assertEqual(parse_integer(str(THIRTY), high=THIRTY), THIRTY)
        self.assertIsNone(parse_integer(str(THIRTY), high=THIRTY - 1))
        self.assertEqual(parse_integer(str(-THIRTY), low=-THIRTY), -THIRTY)
        self.assertIsNone(parse_integer(str(-THIRTY), low=1 - THIRTY))
        self.assertEqual(parse_integer("7", low=-THIRTY, high=THIRTY), 7)

    def test_thousands_of_digits(self):
        for many in (4000, 6000):
            self.assertIsNone(parse_integer("9" * many))
            self.assertIsNone(parse_integer("-" + "9" * many, low=-THIRTY, high=THIRTY))
            self.assertIsNone(parse_integer("0" * many))

    def test_other_values(self):
        for value in ODD_VALUES + [0, 7, ["7"], ("7",), {"7": 7}]:
            self.assertIsNone(parse_integer(value))

    def test_the_bounds_are_passed_by_name(self):
        self.assertEqual(parse_integer(text="7", high=8, low=6), 7)
        with self.assertRaises(TypeError):
            parse_integer("7", 0)


class SplitWordsTest(unittest.TestCase):
    def test_all_short_strings(self):
        for text in strings(" \na#", 6):
            good = re.fullmatch("[^ \n]+( [^ \n]+)*", text)
            expected = re.findall("[^ \n]+", text) if good else None
            self.assertEqual(split_words(text), expected, repr(text))

    def test_ordinary_lines(self):
        found = split_words("put mail wrap 6 same; join |/")
        self.assertEqual(found, ["put", "mail", "wrap", "6", "same;", "join", "|/"])
        self.assertEqual(split_words("-"), ["-"])
        self.assertEqual(split_words(text="~ !"), ["~", "!"])
        check_new_list(self, split_words, "a b")

    def test_other_values(self):
        for value in ODD_VALUES + [0, "", " ", "\n", " a", "a ", "a\nb", ["a"], ("a", "b"), {"a": "b"}]:
            self.assertIsNone(split_words(value))


if __name__ == "__main__":
    unittest.main()
