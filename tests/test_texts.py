"""Points [21] and [22]: texts, their lines, widths and places."""

import unittest

from reflows.errors import InvalidInteger, InvalidMarks, InvalidText, InvalidWords
from reflows.texts import (
    columns, is_text, lengths_of, lines, marks_of, page, place_of, text_of, unlike_marks, widths, write_text,
)
from tests.helper import (
    NO_TEXTS, NOTE, ODD_VALUES, check_keeps, check_new_list, check_raises, long_text, small_texts, tupled,
)


def all_lines(text):
    """Return the list of the lines of a text."""
    return list(lines(text))


class ExampleTest(unittest.TestCase):
    def test_widths_columns_places_and_lines(self):
        found = [widths(NOTE), columns(NOTE), place_of(NOTE, 1), list(lines(NOTE))[2]]
        self.assertEqual(found, [[5, 3, 3, 4], [2, 5, 3, 3, 4], (0, 1), [("|0", "not")]])


class IsTextTest(unittest.TestCase):
    def test_texts(self):
        for text in [[], NOTE, [("#3", "a" * 30)], [("#0", "a"), ("#1", "b"), (" ", "c"), ("|3", "d"), ("/2", "e")]]:
            self.assertIs(is_text(text), True)
            self.assertIs(is_text(tuple(text)), True)

    def test_all_texts_of_three_tokens(self):
        self.assertTrue(all([is_text(text) for text in small_texts(3, (1,))]))

    def test_a_long_text(self):
        self.assertIs(is_text(long_text()), True)
        self.assertIs(is_text(long_text() + [("/0", "a" * 31)]), False)

    def test_other_values(self):
        for value in ODD_VALUES + NO_TEXTS:
            if value != [] and value != ():
                self.assertIs(is_text(value), False, value)

    def test_parameter_name_and_arguments(self):
        self.assertIs(is_text(value=NOTE), True)
        check_keeps(self, is_text, [("#0", "a"), [" ", "b"]])


class TextOfTest(unittest.TestCase):
    def test_ordinary_rows(self):
        marks = ["#0", " ", "/1", "|0", "#2"]
        words = ["to", "be", "or", "not", "to"]
        self.assertEqual(text_of(marks, words), NOTE)
        self.assertEqual(text_of(tuple(marks), tuple(words)), NOTE)
        self.assertEqual(text_of(words=words, marks=marks), NOTE)
        self.assertEqual(text_of([], []), [])
        self.assertEqual(text_of((), ()), [])
        self.assertEqual({token.__class__ for token in text_of(marks, words)}, {tuple})

    def test_each_text_comes_back(self):
        for text in small_texts(2):
            self.assertEqual(text_of(marks_of(text), [word for _, word in text]), text)

    def test_new_lists(self):
        check_new_list(self, text_of, ["#0", " "], ["a", "b"])

    def test_invalid_marks(self):
        values = ODD_VALUES[:3] + [
            7, "", "#0", {}, {"#0": 0}, [" "], ["/0"], ["|0"], (" ", "#0"), ["#0", "#4"], ["#0", None], ["#0", ["#0"]],
            [["#0"]], ["#"], [True], ["#0", 0], [("#0", "a")],
        ]
        for marks in values:
            check_raises(self, InvalidMarks, "value", marks, text_of, marks, ["a", "b"])

    def test_invalid_words(self):
        values = ODD_VALUES + [
            7, "ab", "a", ["a"], ["a", "b", "c"], ["a", ""], ["a", "a" * 31], ["a", "B"], ["a", None], ["a", ["b"]],
            {"a": "b", "b": "a"}, ("a", "b c"), ("a",),
        ]
        for words in values:
            check_raises(self, InvalidWords, "value", words, text_of, ["#0", " "], words)
        words = ["a"]
        check_raises(self, InvalidWords, "value", words, text_of, [], words)

    def test_words_of_one_and_thirty_letters(self):
        self.assertEqual(text_of(["#0", " "], ["a", "b" * 30]), [("#0", "a"), (" ", "b" * 30)])

    def test_the_marks_are_checked_first(self):
        marks = [" "]
        check_raises(self, InvalidMarks, "value", marks, text_of, marks, None)
        check_raises(self, InvalidMarks, "value", marks, text_of, words=["a", "b"], marks=marks)


class MarksAndLengthsTest(unittest.TestCase):
    def test_ordinary_texts(self):
        self.assertEqual(marks_of(NOTE), ["#0", " ", "/1", "|0", "#2"])
        self.assertEqual(lengths_of(NOTE), [2, 2, 2, 3, 2])
        self.assertEqual(marks_of(tuple(NOTE)), ["#0", " ", "/1", "|0", "#2"])
        self.assertEqual(lengths_of(tuple(NOTE)), [2, 2, 2, 3, 2])
        self.assertEqual([marks_of([]), lengths_of([]), marks_of(()), lengths_of(())], [[], [], [], []])
        self.assertEqual(lengths_of([("#0", "a" * 30), (" ", "a")]), [30, 1])
        self.assertEqual([marks_of(text=NOTE)[0], lengths_of(text=NOTE)[0]], ["#0", 2])

    def test_new_lists(self):
        check_new_list(self, marks_of, NOTE)
        check_new_list(self, lengths_of, NOTE)
        check_new_list(self, marks_of, [])
        check_new_list(self, lengths_of, [])


class UnlikeMarksTest(unittest.TestCase):
    def test_ordinary_texts(self):
        other = [("#1", "be"), (" ", "or"), ("/2", "to"), ("|0", "and"), ("|2", "is")]
        self.assertEqual(unlike_marks(NOTE, other), [0, 2, 4])
        self.assertEqual(unlike_marks(other, NOTE), [0, 2, 4])
        self.assertEqual(unlike_marks(NOTE, NOTE), [])
        self.assertEqual(unlike_marks(tuple(NOTE), other), [0, 2, 4])
        self.assertEqual(unlike_marks([], ()), [])
        self.assertEqual(unlike_marks(one=NOTE, other=NOTE), [])

    def test_all_texts_of_two_tokens(self):
        texts = list(small_texts(2, (1,)))
        for one in texts[5:]:
            for other in texts[5:]:
                expected = [index for index in (0, 1) if one[index] != other[index]]
                self.assertEqual(unlike_marks(one, other), expected)

    def test_new_lists(self):
        check_new_list(self, unlike_marks, NOTE, [("#3", word) for _, word in NOTE])

    def test_invalid_texts(self):
        for value in NO_TEXTS:
            check_raises(self, InvalidText, "value", value, unlike_marks, value, NOTE)
            check_raises(self, InvalidText, "value", value, unlike_marks, NOTE, value)

    def test_words_of_other_lengths(self):
        for other in [[], NOTE[:4], NOTE + [(" ", "a")], NOTE[:4] + [("#2", "too")], tuple(NOTE[:1])]:
            check_raises(self, InvalidText, "value", other, unlike_marks, NOTE, other)
        check_raises(self, InvalidText, "value", NOTE, unlike_marks, [], NOTE)

    def test_the_first_text_is_checked_first(self):
        one = [(" ", "a")]
        check_raises(self, InvalidText, "value", one, unlike_marks, one, None)
        check_raises(self, InvalidText, "value", one, unlike_marks, one, NOTE)


class LinesTest(unittest.TestCase):
    def test_ordinary_texts(self):
        expected = [[("#0", "to"), (" ", "be")], [("/1", "or")], [("|0", "not")], [("#2", "to")]]
        self.assertEqual(all_lines(NOTE), expected)
        self.assertEqual(all_lines(tuple(NOTE)), expected)
        self.assertEqual(list(lines(text=NOTE)), expected)
        self.assertEqual([all_lines([]), all_lines(())], [[], []])
        self.assertEqual(all_lines([("#0", "a")]), [[("#0", "a")]])

    def test_all_texts_of_three_tokens(self):
        for text in small_texts(3, (1,)):
            parts = all_lines(text)
            self.assertEqual([token for part in parts for token in part], text)
            for part in parts:
                self.assertEqual([mark == " " for mark, _ in part], [False] + [True] * (len(part) - 1))

    def test_it_is_a_generator(self):
        made = lines(NOTE)
        self.assertIs(iter(made), made)
        self.assertEqual(next(made), [("#0", "to"), (" ", "be")])
        self.assertEqual(next(made), [("/1", "or")])

    def test_new_lists(self):
        text = [("#0", "a"), (" ", "b"), ("|0", "c")]
        for line in lines(text):
            line.clear()
        self.assertEqual(text, [("#0", "a"), (" ", "b"), ("|0", "c")])
        self.assertEqual(all_lines(text), [[("#0", "a"), (" ", "b")], [("|0", "c")]])
        single = [("#0", "a")]
        self.assertIsNot(all_lines(single)[0], single)
        check_new_list(self, all_lines, text)

    def test_the_first_item_raises(self):
        for value in NO_TEXTS:
            made = lines(value)
            check_raises(self, InvalidText, "value", value, next, made)


class WidthsTest(unittest.TestCase):
    def test_ordinary_texts(self):
        self.assertEqual(widths(tuple(NOTE)), [5, 3, 3, 4])
        self.assertEqual(columns(tuple(NOTE)), [2, 5, 3, 3, 4])
        self.assertEqual([widths([]), columns([]), widths(()), columns(())], [[], [], [], []])
        self.assertEqual(widths([("#3", "a" * 30), (" ", "a")]), [35])
        self.assertEqual(columns([("#3", "a" * 30), (" ", "a")]), [33, 35])
        self.assertEqual([widths(text=NOTE)[0], columns(text=NOTE)[0]], [5, 2])

    def test_the_widths_are_those_of_the_page(self):
        for text in small_texts(3):
            rows = [row.rstrip(" ") for row in page(text).split("\n") if row != ""]
            self.assertEqual(widths(text), [len(row) for row in rows])

    def test_a_column_is_the_width_of_the_text_that_ends_there(self):
        for text in small_texts(3):
            expected = [widths(text[:index + 1])[-1] for index in range(len(text))]
            self.assertEqual(columns(text), expected)

    def test_new_lists(self):
        check_new_list(self, widths, NOTE)
        check_new_list(self, columns, NOTE)


class PlaceOfTest(unittest.TestCase):
    def test_ordinary_texts(self):
        expected = [(0, 0), (0, 1), (1, 0), (2, 0), (3, 0)]
        self.assertEqual([place_of(NOTE, index) for index in range(5)], expected)
        self.assertEqual([place_of(tuple(NOTE), index) for index in range(5)], expected)
        self.assertEqual(place_of(index=1, text=NOTE), (0, 1))
        self.assertEqual(place_of(NOTE, 1).__class__, tuple)

    def test_all_texts_of_three_tokens(self):
        for text in small_texts(3, (1,)):
            parts = all_lines(text)
            expected = [(line, place) for line, part in enumerate(parts) for place in range(len(part))]
            self.assertEqual([place_of(text, index) for index in range(len(text))], expected)

    def test_the_text_stays(self):
        check_keeps(self, place_of, list(NOTE), 3)

    def test_invalid_indexes(self):
        for index in ODD_VALUES + [-1, 5, 6, 10 ** 29, -10 ** 29, "1", "", [1], (1,), {1: 1}]:
            check_raises(self, InvalidInteger, "value", index, place_of, NOTE, index)
        for index in (0, -1, 1, None):
            check_raises(self, InvalidInteger, "value", index, place_of, [], index)

    def test_the_text_is_checked_first(self):
        check_raises(self, InvalidText, "value", None, place_of, None, None)
        text = [(" ", "a")]
        check_raises(self, InvalidText, "value", text, place_of, index=-1, text=text)


class InvalidTextTest(unittest.TestCase):
    def test_all_functions_of_one_text(self):
        for call in (marks_of, lengths_of, widths, columns, page, write_text):
            for value in NO_TEXTS:
                check_raises(self, InvalidText, "value", value, call, value)
                check_raises(self, InvalidText, "value", value, call, text=value)

    def test_place_of(self):
        for value in NO_TEXTS:
            check_raises(self, InvalidText, "value", value, place_of, value, 0)

    def test_lists_in_the_place_of_tokens(self):
        for text in ([["#0", "a"]], tupled(NOTE[:1]) + (["/0", "a"],)):
            self.assertIs(is_text(text), False)
            check_raises(self, InvalidText, "value", text, marks_of, text)


if __name__ == "__main__":
    unittest.main()
