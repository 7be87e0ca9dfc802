"""Points [23], [24] and [25]: pages and writings of texts."""

import re
import unittest

from reflows.errors import InvalidPage, InvalidText
from reflows.texts import is_text, page, read_page, read_text, write_text
from reflows.words import all_marks
from tests.helper import NOTE, ODD_VALUES, check_keeps, check_new_list, check_raises, long_text, small_texts, strings

GOOD_ROW = re.compile(" {0,3}[a-z]{1,30}( [a-z]{1,30})*")
GOOD_WRITING = re.compile("(#[0-3][a-z]{1,30}(( |[#|/][0-3])[a-z]{1,30})*)?")


def first_wrong_row(shown):
    """Return the index of the first row of a string that no page has, by the words of [24], or None."""
    rows = shown.split("\n")
    if shown == "":
        return None
    for index, row in enumerate(rows):
        ahead = rows[index - 1] if index > 0 else None
        behind = rows[index + 1] if index + 1 < len(rows) else None
        if row == "":
            right = ahead is not None and ahead != "" and behind is not None and behind != ""
        elif GOOD_ROW.fullmatch(row):
            right = True
        else:
            right = row[-1] == " " and GOOD_ROW.fullmatch(row[:-1]) and behind is not None and behind != ""
        if not right:
            return index
    return None


def short_pages(most, text=()):
    """Yield the pages of at most so many characters of texts whose words have the letter a alone."""
    shown = page(text)
    if len(shown) > most:
        return
    yield shown
    for mark in all_marks():
        if text or mark[0] == "#":
            for length in range(1, most + 1):
                yield from short_pages(most, text + ((mark, "a" * length),))


class ExampleTest(unittest.TestCase):
    def test_page(self):
        self.assertEqual(page(NOTE), "to be \n or\nnot\n\n  to")

    def test_read_page(self):
        self.assertEqual(read_page(page(NOTE)) == NOTE, True)

    def test_writings(self):
        found = [write_text(NOTE), read_text(write_text(NOTE)) == NOTE, read_text("#0a b|3c")]
        self.assertEqual(found, ["#0to be/1or|0not#2to", True, [("#0", "a"), (" ", "b"), ("|3", "c")]])

    def test_a_wrong_page(self):
        with self.assertRaises(InvalidPage) as caught:
            read_page("to\n\n\nbe")
        self.assertEqual(caught.exception.line, 1)


class PageTest(unittest.TestCase):
    def test_the_empty_text(self):
        self.assertEqual([page([]), page(())], ["", ""])

    def test_a_paragraph_first_and_later(self):
        self.assertEqual(page([("#2", "a")]), "  a")
        self.assertEqual(page([("#2", "a"), ("#1", "b"), ("#0", "c")]), "  a\n\n b\n\nc")

    def test_soft_and_hard_breaks(self):
        self.assertEqual(page([("#0", "a"), ("/0", "b"), ("|0", "c"), ("/3", "d")]), "a \nb\nc \n   d")
        self.assertEqual(page([("#0", "a"), ("|3", "b"), ("#0", "c")]), "a\n   b\n\nc")

    def test_blanks(self):
        self.assertEqual(page([("#1", "a"), (" ", "bb"), (" ", "ccc"), ("/1", "d"), (" ", "e")]), " a bb ccc \n d e")

    def test_arguments(self):
        self.assertEqual(page(tuple(NOTE)), page(text=NOTE))
        check_keeps(self, page, list(NOTE))


class ReadPageTest(unittest.TestCase):
    def check_wrong(self, shown, line):
        with self.assertRaises(InvalidPage) as caught:
            read_page(shown)
        self.assertEqual(caught.exception.__class__, InvalidPage)
        self.assertEqual(caught.exception.line, line, repr(shown))
        self.assertNotIsInstance(caught.exception.line, bool)

    def test_the_empty_page(self):
        self.assertEqual(read_page(""), [])

    def test_pages_come_back(self):
        for text in small_texts(3):
            self.assertEqual(read_page(page(text)), text)
            self.assertEqual(read_page(page(tuple(text))), text)

    def test_a_long_page(self):
        self.assertEqual(read_page(page(long_text())), long_text())

    def test_just_the_pages_of_texts_are_read(self):
        found = []
        for shown in strings(" \na", 8):
            line = first_wrong_row(shown)
            if line is None:
                text = read_page(shown)
                self.assertTrue(is_text(text))
                self.assertEqual(page(text), shown)
                found.append(shown)
            else:
                self.check_wrong(shown, line)
        self.assertEqual(sorted(found), sorted(short_pages(8)))

    def test_empty_lines(self):
        self.check_wrong("\n", 0)
        self.check_wrong("\na", 0)
        self.check_wrong("\n\na", 0)
        self.check_wrong("a\n", 1)
        self.check_wrong("a\n\n", 1)
        self.check_wrong("a\n\n\nb", 1)
        self.check_wrong("a\n\nb\n", 3)
        self.check_wrong("a\n\nb\n\n\nc", 3)

    def test_spaces_at_the_ends_of_lines(self):
        self.assertEqual(read_page("a \nb"), [("#0", "a"), ("/0", "b")])
        self.check_wrong("a ", 0)
        self.check_wrong("a\nb ", 1)
        self.check_wrong("a \n\nb", 0)
        self.check_wrong("a  \nb", 0)
        self.check_wrong("a \n", 0)

    def test_spaces_at_the_beginnings_of_lines(self):
        self.assertEqual(read_page("   a\n   b"), [("#3", "a"), ("|3", "b")])
        self.check_wrong("    a", 0)
        self.check_wrong("a\n    b", 1)
        self.check_wrong(" ", 0)
        self.check_wrong(" \na", 0)
        self.check_wrong("a\n  \nb", 1)

    def test_words(self):
        self.assertEqual(read_page("a" * 30 + " b"), [("#0", "a" * 30), (" ", "b")])
        for shown in ("a" * 31, "A", "a1", "a  b", "#0a", "a-b", "a \t"):
            self.check_wrong(shown, 0)
            self.check_wrong("a\nb\n" + shown + "\n" + shown, 2)

    def test_the_first_wrong_line_is_told(self):
        self.check_wrong("a\nB\n\n\nC", 1)
        self.check_wrong("a\nb\n\n\nC", 2)

    def test_other_values(self):
        for value in ODD_VALUES + [0, 7, ["a"], ("a",), list(NOTE), {"a": "b"}]:
            self.check_wrong(value, 0)

    def test_arguments_and_new_lists(self):
        self.assertEqual(read_page(page="a b"), [("#0", "a"), (" ", "b")])
        check_new_list(self, read_page, "a b\n\nc")
        check_new_list(self, read_page, "")


class WritingTest(unittest.TestCase):
    def test_the_empty_text(self):
        self.assertEqual([write_text([]), write_text(()), read_text("")], ["", "", []])

    def test_writings_come_back(self):
        for text in small_texts(3):
            self.assertEqual(read_text(write_text(text)), text)
            self.assertEqual(write_text(tuple(text)), "".join([part for token in text for part in token]))

    def test_a_long_writing(self):
        self.assertEqual(read_text(write_text(long_text())), long_text())

    def test_just_the_writings_of_texts_are_read(self):
        for writing in strings("#|/ 034a", 5):
            if GOOD_WRITING.fullmatch(writing):
                text = read_text(writing)
                self.assertTrue(is_text(text))
                self.assertEqual(write_text(text), writing)
            else:
                check_raises(self, InvalidText, "value", writing, read_text, writing)

    def test_wrong_writings(self):
        wrong = [
            "a", "#0", "#0a ", "#0a/", "#0a/1", "/0a", "|0a", " a", "#4a", "#0A", "#0a  b", "#0a\n", "#0a\n b", "-",
            "#0" + "a" * 31, "#0a b|3", "##0a", "#a", "0a", "#0a#0", "#0a_b", "\n", " #0a", "#00a",
        ]
        for writing in wrong:
            check_raises(self, InvalidText, "value", writing, read_text, writing)

    def test_words_of_one_and_thirty_letters(self):
        self.assertEqual(read_text("#0a " + "z" * 30), [("#0", "a"), (" ", "z" * 30)])

    def test_other_values(self):
        for value in ODD_VALUES + [0, 7, ["#0a"], ("#0a",), list(NOTE), {"#0": "a"}]:
            check_raises(self, InvalidText, "value", value, read_text, value)

    def test_arguments_and_new_lists(self):
        self.assertEqual(write_text(text=NOTE), "#0to be/1or|0not#2to")
        self.assertEqual(read_text(writing="#1a"), [("#1", "a")])
        check_keeps(self, write_text, list(NOTE))
        check_new_list(self, read_text, "#0a b")
        check_new_list(self, read_text, "")


if __name__ == "__main__":
    unittest.main()
