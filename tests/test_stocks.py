"""Points [2], [4], [51], [52], [53], [54] and [55]: the stocks."""

import inspect
import itertools
import operator
import unittest

from reflows.chains import Chain
from reflows.errors import InvalidInteger, InvalidMarks, InvalidStock, InvalidText, NoStock, NotOver
from reflows.steps import Group
from reflows.stocks import Stock
from reflows.texts import is_text, lengths_of, marks_of
from reflows.words import all_marks
from tests.helper import NO_TEXTS, NOTE, ODD_VALUES, check_keeps, check_new_list, check_raises, small_texts

WHOLE = Stock(all_marks(), shortest=1, longest=30)
NO_STOCKS = ODD_VALUES + [0, 7, "", "#0 : 1 4", ["#0"], ("#0",), ("#0", 1), {"#0": 1}, Chain(), Group(1)]


def several_stocks():
    """Return stocks of one mark, of a few marks, and of all marks, with one length and with several."""
    rows = [["#0"], ["#3"], [" ", "#0"], ["#0", "#1"], [" ", "#1", "|0", "/2"], ["#2", "|3", "/0", "/3"], all_marks()]
    sizes = [(1, 1), (1, 2), (2, 3), (30, 30), (1, 4), (4, 6)]
    return [Stock(row, shortest=shortest, longest=longest) for row in rows for shortest, longest in sizes]


class ExampleTest(unittest.TestCase):
    stock = Stock(["/1", " ", "#0"], longest=2)

    def test_letters(self):
        found = [self.stock.letters(), len(self.stock), ("/1", 3) in self.stock,
                 self.stock.holds([("#0", "to"), ("|0", "be")])]
        letters = [(" ", 1), (" ", 2), ("#0", 1), ("#0", 2), ("/1", 1), ("/1", 2)]
        self.assertEqual(found, [letters, 6, False, False])

    def test_writings(self):
        found = [str(self.stock), Stock.parse("_ #0 /1 : 1 2") == self.stock,
                 str(self.stock | Stock(["#3"], shortest=2, longest=5))]
        self.assertEqual(found, ["_ #0 /1 : 1 2", True, "_ #0 #3 /1 : 1 5"])

    def test_numbers(self):
        found = [self.stock.amount(3), self.stock.text_at(2, 7), self.stock.number_of([("#0", "to"), (" ", "be")])]
        self.assertEqual(found, [72, [("#0", "aa"), (" ", "aa")], 7])

    def test_no_stock(self):
        with self.assertRaises(NoStock) as caught:
            self.stock & Stock(["#1", " "])
        self.assertIs(caught.exception.__class__, NoStock)


class MakingTest(unittest.TestCase):
    def test_marks_in_another_order_and_given_twice(self):
        for row in itertools.permutations([" ", "#0", "#2", "|1", "/0"]):
            self.assertEqual(Stock(row).marks(), [" ", "#0", "#2", "|1", "/0"])
        self.assertEqual(Stock(["/3", "#1", "/3", "#1", " ", "#1"]).marks(), [" ", "#1", "/3"])
        self.assertEqual(Stock(all_marks()[::-1] * 20).marks(), all_marks())
        self.assertEqual(Stock(["#1", " ", "#1"]), Stock((" ", "#1")))
        self.assertEqual(len(Stock(["#1", " ", "#1"])), 8)

    def test_lengths(self):
        self.assertEqual(Stock(["#0"]).lengths(), [1, 2, 3, 4])
        self.assertEqual(Stock(["#0"], shortest=4).lengths(), [4])
        self.assertEqual(Stock(["#0"], longest=1).lengths(), [1])
        self.assertEqual(Stock(["#0"], shortest=5, longest=5).lengths(), [5])
        self.assertEqual(Stock(longest=30, marks=["#0"], shortest=1).lengths(), list(range(1, 31)))
        self.assertEqual(Stock(["#0"], shortest=30, longest=30).lengths(), [30])

    def test_shortest_and_longest_are_passed_by_name(self):
        with self.assertRaises(TypeError):
            Stock(["#0"], 1)

    def test_invalid_marks(self):
        wrong = ODD_VALUES + [
            0, "", "#0", " ", {"#0": 1}, [" "], ["/0", "|0", " "], ["#"], ["#0", "#4"], ["#0", "_"], ["#0", None],
            ["#0", ["#0"]], [("#0",)], ["#0", ""], ["#0", 0], ("|0",), Chain(), Stock(["#0"]), ["#0", "/"], ["#0\n"],
        ]
        for marks in wrong:
            check_raises(self, InvalidMarks, "value", marks, Stock, marks)
            check_raises(self, InvalidMarks, "value", marks, Stock, shortest=None, longest=0, marks=marks)

    def test_invalid_shortest(self):
        for shortest in ODD_VALUES + [0, -1, 31, 10 ** 29, -10 ** 29, "1", [1], (1,), {1: 1}]:
            check_raises(self, InvalidInteger, "value", shortest, Stock, ["#0"], shortest=shortest)
            check_raises(self, InvalidInteger, "value", shortest, Stock, ["#0"], longest=None, shortest=shortest)

    def test_invalid_longest(self):
        for longest in ODD_VALUES + [0, -1, 31, 10 ** 29, -10 ** 29, "4", [4], (4,), {4: 4}]:
            check_raises(self, InvalidInteger, "value", longest, Stock, ["#0"], longest=longest)
        for shortest in range(1, 31):
            for longest in range(33):
                if shortest <= longest <= 30:
                    stock = Stock(["#0"], shortest=shortest, longest=longest)
                    self.assertEqual(stock.lengths(), list(range(shortest, longest + 1)))
                else:
                    check_raises(self, InvalidInteger, "value", longest, Stock, ["#0"], shortest=shortest,
                                 longest=longest)

    def test_a_shortest_above_4_needs_a_longest(self):
        for shortest in range(5, 31):
            check_raises(self, InvalidInteger, "value", 4, Stock, ["#0"], shortest=shortest)

    def test_the_list_that_was_handed_in_may_be_changed(self):
        given = ["#0", " "]
        stock = Stock(given)
        given.append("/0")
        given[0] = "x"
        self.assertEqual([str(stock), stock.marks(), len(stock)], ["_ #0 : 1 4", [" ", "#0"], 8])
        check_keeps(self, Stock, ["#0", " ", "#0"])

    def test_the_lists_that_are_returned_are_new_ones(self):
        stock = Stock([" ", "#0", "/1"], longest=2)
        for call in (stock.marks, stock.lengths, stock.letters, stock.first_letters):
            check_new_list(self, call)
        self.assertEqual(stock.amount(3), 2 * 6 * 6)
        check_new_list(self, stock.text_at, 3, 40)
        check_new_list(self, stock.text_at, 0, 0)

    def test_equal_stocks(self):
        stocks = several_stocks()
        for one in stocks:
            for other in stocks:
                same = one.marks() == other.marks() and one.lengths() == other.lengths()
                self.assertIs(one == other, same)
                self.assertIs(one != other, not same)
        self.assertIs(Stock(["#0", " "]) == Stock((" ", "#0", " "), shortest=1, longest=4), True)

    def test_stocks_equal_no_other_values(self):
        stock = Stock(["#0"])
        for value in NO_STOCKS + [str(stock), stock.letters(), tuple(stock.letters())]:
            self.assertIs(stock == value, False)
            self.assertIs(stock != value, True)

    def test_repr_is_a_string(self):
        self.assertIsInstance(repr(WHOLE), str)


class LetterTest(unittest.TestCase):
    def test_letters_in_order(self):
        for stock in several_stocks() + [WHOLE]:
            letters = [(mark, length) for mark in all_marks() if mark in stock.marks() for length in stock.lengths()]
            self.assertEqual(stock.letters(), letters)
            self.assertEqual(stock.first_letters(), [letter for letter in letters if letter[0][0] == "#"])
            self.assertEqual(len(stock), len(letters))
        self.assertEqual([len(WHOLE), len(WHOLE.first_letters())], [390, 120])

    def test_all_letters_are_in_the_stocks_that_have_them(self):
        for stock in several_stocks():
            letters = stock.letters()
            for mark in all_marks():
                for length in range(32):
                    self.assertIs((mark, length) in stock, (mark, length) in letters)

    def test_other_values_are_no_letters(self):
        stock = Stock(all_marks(), longest=30)
        wrong = ODD_VALUES + [
            0, " ", "#0", "#01", ["#0", 1], ("#0",), ("#0", 1, 1), (1, "#0"), ("#0", True), ("#0", "a"), ("#0", "1"),
            (None, 1), (["#0"], 1), ("#0", [1]), ("#0", None), ("#0", 0), ("#0", 31), ("#0", -1), ("#0", 10 ** 29),
            ("_", 1), ("", 1), ("#4", 1), (("#0", 1),), [("#0", 1)], {"#0": 1}, ("#", 0), stock, (stock, 1), ("#0", stock),
        ]
        for value in wrong:
            self.assertIs(value in stock, False)
            self.assertIs(value not in stock, True)
        self.assertIs(("#0", 1) in stock, True)


class HoldsTest(unittest.TestCase):
    def test_small_texts(self):
        for stock in several_stocks():
            for text in small_texts(2, (1, 2, 3)):
                marks = all([mark in stock.marks() for mark in marks_of(text)])
                lengths = all([length in stock.lengths() for length in lengths_of(text)])
                self.assertIs(stock.holds(text), marks and lengths)
                self.assertIs(stock.holds(tuple(text)), marks and lengths)

    def test_the_text_without_tokens(self):
        for stock in several_stocks():
            self.assertIs(stock.holds([]), True)
            self.assertIs(stock.holds(text=()), True)

    def test_no_texts(self):
        for value in NO_TEXTS:
            check_raises(self, InvalidText, "value", value, WHOLE.holds, value)
            check_raises(self, InvalidText, "value", value, Stock(["#0"]).holds, text=value)
        check_keeps(self, WHOLE.holds, list(NOTE))


class TwoStocksTest(unittest.TestCase):
    def test_all_pairs(self):
        stocks = several_stocks()
        for one in stocks:
            for other in stocks:
                letters = [letter for letter in one.letters() if letter in other]
                self.assertIs(one.within(other), letters == one.letters())
                if any([letter[0][0] == "#" for letter in letters]):
                    self.assertEqual((one & other).letters(), letters)
                else:
                    with self.assertRaises(NoStock):
                        one & other
                lengths = one.lengths() + other.lengths()
                both = one | other
                self.assertEqual(both.marks(), [mark for mark in all_marks() if mark in one.marks() + other.marks()])
                self.assertEqual(both.lengths(), list(range(min(lengths), max(lengths) + 1)))

    def test_the_lengths_between_are_in_the_sum(self):
        one, other = Stock(["#0"], shortest=1, longest=2), Stock(["#0"], shortest=8, longest=9)
        self.assertEqual(str(one | other), "#0 : 1 9")
        self.assertEqual(str(other | one), "#0 : 1 9")
        with self.assertRaises(NoStock):
            one & other

    def test_no_paragraph_in_both(self):
        with self.assertRaises(NoStock):
            Stock([" ", "#0", "/0"]) & Stock([" ", "#1", "/0"])
        self.assertEqual(str(Stock([" ", "#0", "#1"]) & Stock([" ", "#1", "/0"], longest=9)), "_ #1 : 1 4")

    def test_within(self):
        stock = Stock(["#0", " "], shortest=2, longest=3)
        self.assertIs(stock.within(other=stock), True)
        self.assertIs(stock.within(Stock(["#0"], shortest=2, longest=3)), False)
        self.assertIs(stock.within(Stock(["#0", " "], shortest=3, longest=3)), False)
        self.assertIs(stock.within(Stock(["#0", " "], shortest=2, longest=2)), False)
        self.assertIs(stock.within(WHOLE), True)
        self.assertIs(WHOLE.within(stock), False)

    def test_the_stocks_stay(self):
        one, other = Stock(["#0", " "], longest=2), Stock(["#0", "/0"], shortest=2)
        one & other
        one | other
        one.within(other)
        self.assertEqual([str(one), str(other)], ["_ #0 : 1 2", "#0 /0 : 2 4"])

    def test_no_stocks(self):
        stock = Stock(["#0"])
        for value in NO_STOCKS:
            check_raises(self, InvalidStock, "value", value, operator.and_, stock, value)
            check_raises(self, InvalidStock, "value", value, operator.or_, stock, value)
            check_raises(self, InvalidStock, "value", value, stock.within, value)
            check_raises(self, InvalidStock, "value", value, stock.within, other=value)


class NumberTest(unittest.TestCase):
    stocks = [
        Stock(["#0"], longest=1), Stock(["#0", "#3"], longest=2), Stock([" ", "#0"], shortest=2, longest=3),
        Stock([" ", "#0", "#2", "|1", "/0"], longest=2), Stock(["#1", "/3"], shortest=29, longest=30),
    ]

    def test_all_texts_of_few_tokens(self):
        for stock in self.stocks:
            for many in range(4):
                rows = itertools.product(*([stock.first_letters()] + [stock.letters()] * 3)[:many])
                expected = [[(mark, "a" * length) for mark, length in row] for row in rows]
                found = list(stock.texts(many))
                self.assertEqual(found, expected)
                self.assertEqual(stock.amount(many), len(expected))
                self.assertEqual([stock.text_at(many, number) for number in range(len(expected))], expected)
                self.assertEqual([stock.number_of(text) for text in expected], list(range(len(expected))))
                self.assertTrue(all([is_text(text) and stock.holds(text) for text in found]))

    def test_texts_are_ascending(self):
        places = {letter: place for place, letter in enumerate(self.stocks[3].letters())}
        rows = [[places[(mark, len(word))] for mark, word in text] for text in self.stocks[3].texts(3)]
        self.assertEqual(rows, sorted(rows))
        self.assertEqual(len(set([tuple(row) for row in rows])), self.stocks[3].amount(3))

    def test_amounts_of_0_and_of_300_tokens(self):
        for stock in several_stocks() + [WHOLE]:
            first, letters = len(stock.first_letters()), len(stock)
            self.assertEqual([stock.amount(0), stock.amount(1), stock.amount(2)], [1, first, first * letters])
            self.assertEqual(stock.amount(300), first * letters ** 299)
            self.assertEqual([stock.text_at(0, 0), stock.number_of([]), list(stock.texts(0))], [[], 0, [[]]])
        self.assertEqual(Stock(["#0"], longest=1).amount(300), 1)

    def test_numbers_of_more_than_thirty_digits(self):
        amount = WHOLE.amount(300)
        self.assertGreater(amount, 10 ** 700)
        for number in (0, 1, 10 ** 31 + 7, 10 ** 500 + 13, amount // 3, amount - 2, amount - 1):
            text = WHOLE.text_at(300, number)
            self.assertEqual(len(text), 300)
            self.assertTrue(WHOLE.holds(text))
            self.assertEqual(WHOLE.number_of(text), number)
            self.assertEqual(WHOLE.number_of(tuple(text)), number)
        self.assertEqual(WHOLE.text_at(300, amount - 1), [("#3", "a" * 30)] + [("/3", "a" * 30)] * 299)
        self.assertEqual(WHOLE.text_at(300, 0), [("#0", "a")] + [(" ", "a")] * 299)
        self.assertEqual(WHOLE.text_at(number=1, many=300)[-1], (" ", "aa"))

    def test_only_the_first_texts_are_asked(self):
        made = WHOLE.texts(300)
        self.assertIs(iter(made), made)
        found = [next(made) for _ in range(33)]
        self.assertEqual(found, [WHOLE.text_at(300, number) for number in range(33)])
        self.assertEqual(next(WHOLE.texts(many=300)), found[0])

    def test_texts_is_a_generator_of_new_lists(self):
        self.assertTrue(inspect.isgeneratorfunction(Stock.texts))
        stock = Stock(["#0", " "], longest=2)
        for text in stock.texts(2):
            self.assertIs(text.__class__, list)
            text.clear()
        self.assertEqual(next(stock.texts(2)), [("#0", "a"), (" ", "a")])

    def test_words_of_other_letters(self):
        stock = Stock([" ", "#0", "|0"], longest=3)
        self.assertEqual(stock.number_of([("#0", "to"), ("|0", "zzz")]), stock.number_of([("#0", "aa"), ("|0", "aaa")]))
        self.assertEqual(stock.number_of(text=[("#0", "xy")]), 1)
        check_keeps(self, stock.number_of, [("#0", "xy"), (" ", "z")])

    def test_invalid_amounts(self):
        stock = Stock(["#0", " "])
        for many in ODD_VALUES + [-1, 301, 302, 10 ** 29, -10 ** 29, "1", "", [1], (1,), {1: 1}]:
            check_raises(self, InvalidInteger, "value", many, stock.amount, many)
            check_raises(self, InvalidInteger, "value", many, stock.amount, many=many)
            check_raises(self, InvalidInteger, "value", many, stock.text_at, many, 0)
            check_raises(self, InvalidInteger, "value", many, stock.text_at, number=None, many=many)
            made = stock.texts(many)
            check_raises(self, InvalidInteger, "value", many, next, made)

    def test_invalid_numbers(self):
        stock = Stock(["#0", " "], longest=2)
        for many in (0, 1, 2, 300):
            amount = stock.amount(many)
            for number in ODD_VALUES + [-1, amount, amount + 1, amount * 10, "0", "", [0], (0,), {0: 0}]:
                check_raises(self, InvalidInteger, "value", number, stock.text_at, many, number)
            self.assertEqual(stock.number_of(stock.text_at(many, amount - 1)), amount - 1)

    def test_texts_that_are_not_over_the_stock(self):
        stock = Stock(["#0", " "], shortest=2, longest=3)
        for text in ([("#0", "a")], [("#1", "aa")], [("#0", "aa"), (" ", "aaaa")], (("#0", "aa"), ("/0", "aa")), NOTE):
            check_raises(self, NotOver, "value", text, stock.number_of, text)
            check_raises(self, NotOver, "value", text, stock.number_of, text=text)
        for value in NO_TEXTS:
            check_raises(self, InvalidText, "value", value, stock.number_of, value)


class WritingTest(unittest.TestCase):
    def test_writings_come_back(self):
        for stock in several_stocks() + [WHOLE]:
            shown = ["_" if mark == " " else mark for mark in stock.marks()]
            text = " ".join(shown + [":", str(stock.lengths()[0]), str(stock.lengths()[-1])])
            self.assertEqual(str(stock), text)
            again = Stock.parse(text)
            self.assertIs(again.__class__, Stock)
            self.assertEqual(again, stock)
            self.assertEqual(again.letters(), stock.letters())
            self.assertEqual(stock.parse(text=text), stock)

    def test_all_short_rows_of_parts(self):
        known = ["#0", "_ #0", "#0 /1", "_ #0 /1"]
        good = [f"{marks} : {lengths}" for marks in known for lengths in ("1 1", "1 2", "2 2")]
        parts = ["_", "#0", "/1", ":", "1", "2"]
        for row in itertools.chain(*[itertools.product(parts, repeat=many) for many in range(7)]):
            text = " ".join(row)
            if text in good:
                self.assertEqual(str(Stock.parse(text)), text)
            else:
                check_raises(self, InvalidText, "value", text, Stock.parse, text)

    def test_wrong_texts(self):
        wrong = [
            "", " ", ":", ": 1 4", "#0", "#0 :", "#0 : 1", "#0 : 1 4 5", "#0 1 4", "#0  : 1 4", "#0 : 1  4", " #0 : 1 4",
            "#0 : 1 4 ", "#0 : 1 4\n", "\n#0 : 1 4", "#0\n: 1 4", "#0 : 01 4", "#0 : 1 04", "#0 : +1 4", "#0 : 1 +4",
            "#0 : -1 4", "#0 : 0 4", "#0 : 1 31", "#0 : 4 3", "#0 : a 4", "#0: 1 4", "#0 :1 4", "#0 : 1 4:", "#0 ; 1 4",
            "_ : 1 4", "/0 : 1 4", "_ /0 |0 : 1 4", "#0 _ : 1 4", "/0 #0 : 1 4", "#1 #0 : 1 4", "#0 #0 : 1 4",
            "_ _ #0 : 1 4", "#0 #4 : 1 4", "# : 1 4", "__ #0 : 1 4", "#0 x : 1 4", "#0, #1 : 1 4", "#0 : : 1 4",
            ": #0 1 4", "#0 : 1 " + "9" * 3000, "#0 : 1 4 : 1 4", "#0 -1 : 1 4", "#0 : 1.0 4", "#0 : one 4",
        ]
        for text in wrong:
            check_raises(self, InvalidText, "value", text, Stock.parse, text)

    def test_other_values(self):
        values = [value for value in NO_STOCKS if not isinstance(value, str)]
        for value in values + [["#0 : 1 4"], ("#0 : 1 4",), ["#0", ":", "1", "4"], WHOLE]:
            check_raises(self, InvalidText, "value", value, Stock.parse, value)


if __name__ == "__main__":
    unittest.main()
