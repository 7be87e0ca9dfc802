"""Points [81] to [85]: what chains take back, and which marks can be told behind a chain."""

import itertools
import unittest

from reflows.backs import confused, never_told, origin_text, origins, powers, restores, takes_back
from reflows.chains import Chain, read_chain
from reflows.errors import InvalidChain, InvalidInteger, InvalidMark, InvalidStock
from reflows.stocks import Stock
from reflows.texts import marks_of
from reflows.words import all_marks, mark_place
from tests.helper import ODD_VALUES
from tests.plain import (
    LARGE_STOCK, LARGE_WRITINGS, NO_CHAINS, NO_MARKS, NO_STOCKS, STOCKS, chains_of, check_arguments, check_told,
    check_wrong_arguments, done, few_texts, only_letters_a, small_cases, some_texts,
)

STOCK = Stock(["#0", " ", "/0", "|0"], longest=2)
# Chains with at most one step of the kinds wrap, group and alone, as powers wants them.
POWER_WRITINGS = [
    "-", "shift 1", "shift 3", "shift -1; align / 2", "join |; turn / |; group 2", "wrap 3 same", "wrap 4 1; hang 1",
    "turn | /; turn / |", "hang 1; turn / |", "join |; alone 0; turn / |", "turn / #; group 2", "group 1; turn / |",
    "join |; wrap 3 1; turn / |; shift 1", "turn | #; alone 1; turn / |", "align | 1; turn / |; group 3; align | 2",
    "hang 1; shift 1; turn / |", "turn |/ #; join /", "join /; group 2; turn / |; join |",
]


class ExampleTest(unittest.TestCase):
    def test_takes_back(self):
        join, wrap = read_chain("join /"), read_chain("wrap 3 same")
        found = [len(takes_back(join, wrap, STOCK)), takes_back(read_chain("shift -1"), read_chain("shift 1"), STOCK)]
        self.assertEqual(found, [2, None])
        found = [takes_back(join, wrap, STOCK, made_by=join), len(restores(join, wrap, STOCK))]
        self.assertEqual(found, [None, 2])

    def test_confused_and_never_told(self):
        found = [confused(read_chain("shift 2"), STOCK), len(confused(read_chain("join /"), STOCK)[0]),
                 never_told(read_chain("join |"), STOCK)]
        self.assertEqual(found, [None, 2, [[" ", "|0"], ["#0"], ["/0"]]])

    def test_origins(self):
        found = [origins(read_chain("join |; wrap 3 1"), STOCK)["/1"],
                 origin_text(read_chain("wrap 3 1"), STOCK, "/1", "/0")]
        self.assertEqual(found, [[" ", "|0"], None])

    def test_powers(self):
        found = [powers(read_chain("join |; turn / |; group 2"), Stock(["#0", " "])),
                 powers(read_chain("shift 1"), STOCK), powers(read_chain("shift 3"), STOCK)]
        self.assertEqual(found, [(1, 2), None, (1, 1)])


class GivenBackTest(unittest.TestCase):
    def check_given_back(self, told, first, then, stock):
        """Check what is told of texts made by a row of writings, and of what another row makes of these."""
        check_told(self, told, stock, lambda text: done(then, done(first, text)) != done(first, text),
                   (first, then, str(stock)))
        if told is not None:
            only_letters_a(self, told)

    def test_takes_back(self):
        for back, writing, stock in small_cases(120, 2):
            told = takes_back(read_chain(back), read_chain(writing), stock)
            self.check_given_back(told, [], [writing, back], stock)
            self.assertEqual(takes_back(read_chain(back), read_chain(writing), stock, made_by=None), told)

    def test_takes_back_what_a_chain_makes(self):
        for back, writing, first, stock in small_cases(80, 3):
            told = takes_back(read_chain(back), read_chain(writing), stock, made_by=read_chain(first))
            self.check_given_back(told, [first], [writing, back], stock)

    def test_takes_back_in_its_order(self):
        stock = Stock(["#0", " ", "/0"], longest=2)
        self.assertEqual(len(takes_back(read_chain("wrap 3 same"), read_chain("join /"), stock)), 2)
        self.assertEqual(takes_back(read_chain("wrap 3 same"), read_chain("join /"), stock,
                                    made_by=read_chain("join /; wrap 3 same")), None)
        self.assertEqual(len(takes_back(read_chain("join /"), read_chain("wrap 3 same"), stock,
                                        made_by=read_chain("wrap 3 same"))), 2)
        self.assertEqual(takes_back(Chain(), Chain(), stock), None)
        self.assertEqual(takes_back(Chain(), Chain(), stock, made_by=read_chain("group 1")), None)

    def test_a_text_is_told_that_is_over_the_stock_though_others_are_made(self):
        # All marks between are not in the stock.
        stock = Stock(["#0", " "], longest=2)
        told = takes_back(read_chain("shift -3"), read_chain("shift 2"), stock, made_by=read_chain("group 1; shift 1"))
        self.assertEqual(told, [("#0", "a")])
        self.assertEqual(takes_back(read_chain("align #/ 2"), read_chain("shift 1"), stock,
                                    made_by=read_chain("group 1; shift 2")), None)

    def test_restores(self):
        for back, writing, stock in small_cases(90, 2):
            told = restores(read_chain(back), read_chain(writing), stock)
            check_told(self, told, stock,
                       lambda text: done([writing, back, writing], text) != done([writing], text),
                       (back, writing, str(stock)))
            if told is not None:
                only_letters_a(self, told)

    def test_chains_of_four_steps(self):
        one, other = "shift 1; wrap 3 same; hang 1; shift -1", "join /; shift 2; align # 1; turn | /"
        for stock in STOCKS:
            told = takes_back(read_chain(one), read_chain(other), stock)
            self.check_given_back(told, [], [other, one], stock)
            told = takes_back(read_chain(one), read_chain(other), stock, made_by=read_chain(other))
            self.check_given_back(told, [other], [other, one], stock)
            self.check_given_back(restores(read_chain(one), read_chain(other), stock), [other], [one, other], stock)

    def test_large_chains_and_stocks(self):
        back = "join |/; group 5"
        for writing, lengths in zip(LARGE_WRITINGS, [[2, 2, None], [2, 2, 2], [2, 2, 2], [2, None, 2]]):
            told = [takes_back(*chains_of([back, writing]), LARGE_STOCK),
                    restores(*chains_of([back, writing]), LARGE_STOCK),
                    takes_back(read_chain(writing), Chain(), LARGE_STOCK, made_by=read_chain(back))]
            rows = [([writing, back], []), ([writing, back, writing], [writing]), ([back, writing], [back])]
            for text, (left, right) in zip(told, rows):
                for tried in some_texts(LARGE_STOCK, 20, 40) if text is None else [text]:
                    self.assertIs(done(left, tried) == done(right, tried), text is None)
            self.assertEqual([text if text is None else len(text) for text in told], lengths, writing)


class ToldTest(unittest.TestCase):
    def test_confused(self):
        for writing, stock in small_cases(150):
            told = confused(read_chain(writing), stock)
            made = {}
            least = None
            for text in few_texts(stock):
                # The chain changes no word, so what it makes tells the lengths, too.
                made.setdefault(repr(done([writing], text)), []).append(text)
                if least is None and len(made[repr(done([writing], text))]) > 1:
                    least = len(text)
            if told is None:
                self.assertIsNone(least, (writing, str(stock)))
            else:
                self.check_confused(told, writing, stock, least)

    def check_confused(self, told, writing, stock, least):
        """Check that two texts with the fewest words are confused."""
        self.assertIs(told.__class__, tuple)
        one, other = told
        self.assertTrue(stock.holds(one) and stock.holds(other))
        self.assertEqual([word for _, word in one], [word for _, word in other])
        self.assertNotEqual(one, other)
        self.assertEqual(done([writing], one), done([writing], other))
        self.assertTrue(least is None or least == len(one), (writing, str(stock)))
        only_letters_a(self, one + other)

    def test_confused_behind_several_words(self):
        stock = Stock(["#0", " ", "/0"], longest=1)
        one, other = confused(read_chain("group 3"), stock)
        self.assertEqual([len(one), one[:3], sorted([one[3], other[3]])],
                         [4, [("#0", "a"), (" ", "a"), (" ", "a")], [(" ", "a"), ("/0", "a")]])
        self.assertEqual(confused(read_chain("group 3"), Stock(["#0", " "])), None)
        one, other = confused(read_chain("align # 1"), Stock(["#0", "#1"], longest=1))
        self.assertEqual(sorted([one, other]), [[("#0", "a")], [("#1", "a")]])

    def plain_classes(self, writing, stock):
        """Return the classes of the marks that a chain does not tell apart in texts with few words."""
        unlike = set()
        for text in few_texts(stock):
            made = marks_of(done([writing], text))
            for index, (mark, word) in enumerate(text):
                for other in stock.marks() if index > 0 else [mark for mark in stock.marks() if mark[0] == "#"]:
                    changed = text[:index] + [(other, word)] + text[index + 1:]
                    if (mark, other) not in unlike and marks_of(done([writing], changed)) != made:
                        unlike.add((mark, other))
        classes = []
        for mark in stock.marks():
            alike = [other for other in stock.marks() if (mark, other) not in unlike]
            if alike not in classes:
                classes.append(alike)
        return classes

    def test_never_told(self):
        for writing, stock in small_cases(80):
            self.assertEqual(never_told(read_chain(writing), stock), self.plain_classes(writing, stock),
                             (writing, str(stock)))

    def test_never_told_with_marks_of_paragraphs(self):
        # An exchange at the first token would give no text; behind it these marks are never told apart.
        stock = Stock(["#0", " ", "/2", "|1"], longest=2)
        every = [[" ", "#0", "|1", "/2"]]
        self.assertEqual(never_told(read_chain("group 1; turn |/ #; align # 0"), stock), every)
        self.assertEqual(never_told(read_chain("group 1; turn |/ #"), stock), [[" "], ["#0"], ["|1"], ["/2"]])
        self.assertEqual(never_told(read_chain("group 1; turn |/ #"), Stock(["#0", " "])), [[" ", "#0"]])
        self.assertEqual(never_told(read_chain("alone 0; align #|/ 0"), stock), [[" ", "/2"], ["#0"], ["|1"]])
        self.assertEqual(never_told(read_chain("alone 1; align #|/ 0"), stock), [[" "], ["#0"], ["|1"], ["/2"]])
        self.assertEqual(never_told(read_chain("align #|/ 0"), Stock(["#3", "#1"])), [["#1", "#3"]])
        self.assertEqual(never_told(Chain(), Stock(["#3"])), [["#3"]])
        stock = Stock(["#0", "#1", " ", "/0"], longest=1)
        self.assertEqual(never_told(read_chain("align # 0"), stock), [[" "], ["#0", "#1"], ["/0"]])
        self.assertEqual(never_told(read_chain("hang 3; align # 0"), stock), [[" "], ["#0", "#1"], ["/0"]])
        self.assertEqual(never_told(read_chain("hang 1; align # 0"), stock), [[" "], ["#0"], ["#1"], ["/0"]])

    def test_marks_that_are_told_late(self):
        # The marks of a line's begin are told apart only by the width at which it is broken.
        stock = Stock(["#0", "#1", " "], longest=1)
        self.assertEqual(never_told(read_chain("wrap 7 3; align # 0"), stock), [[" "], ["#0"], ["#1"]])
        self.assertEqual(never_told(read_chain("wrap 7 3; align # 0; join /"), stock), [[" "], ["#0", "#1"]])

    def test_large_chains_and_stocks(self):
        for writing in LARGE_WRITINGS:
            chain = read_chain(writing)
            one, other = confused(chain, LARGE_STOCK)
            self.assertEqual(done([writing], one), done([writing], other))
            for row in never_told(chain, LARGE_STOCK):
                for mark, text in itertools.product(row, some_texts(LARGE_STOCK, 10, 20)):
                    changed = text[:1] + [(row[0] if old == mark else old, word) for old, word in text[1:]]
                    self.assertEqual(done([writing], changed), done([writing], text))


class OriginsTest(unittest.TestCase):
    def plain_origins(self, writing, stock):
        """Return for each pair of a mark that is made and a mark of which it comes the least text that ends so."""
        found = {}
        for text in few_texts(stock):
            made = done([writing], text)
            if text:
                found.setdefault((made[-1][0], text[-1][0]), len(text))
        return found

    def test_origins(self):
        for writing, stock in small_cases(120):
            chain = read_chain(writing)
            pairs = self.plain_origins(writing, stock)
            found = origins(chain, stock)
            self.assertIs(found.__class__, dict)
            told = [(made, mark) for made in found for mark in found[made]]
            self.assertEqual(set(pairs) - set(told), set(), (writing, str(stock)))
            for made in found:
                self.assertEqual(found[made], sorted(set(found[made]), key=mark_place))
            for made, mark in told:
                text = origin_text(chain, stock, made, mark)
                self.check_origin_text(text, writing, stock, made, mark)
                self.assertEqual(len(text), pairs.get((made, mark), len(text)), (writing, str(stock), made, mark))

    def check_origin_text(self, text, writing, stock, made, mark):
        """Check that the last mark of a text becomes another one."""
        self.assertTrue(stock.holds(text))
        self.assertEqual([text[-1][0], done([writing], text)[-1][0]], [mark, made])
        only_letters_a(self, text)

    def test_origin_texts_that_there_are_not(self):
        for writing, stock in [("wrap 3 1", STOCK), ("join |; group 2; hang 1", STOCK), ("-", Stock(["#1", "/3"]))]:
            found = origins(read_chain(writing), stock)
            for made, mark in itertools.product(all_marks(), repeat=2):
                text = origin_text(read_chain(writing), stock, made, mark)
                self.assertIs(text is None, made not in found or mark not in found[made], (writing, made, mark))

    def test_origin_texts_of_several_words(self):
        stock = Stock(["#0", " ", "/0"], longest=1)
        self.assertEqual(origin_text(read_chain("group 3"), stock, "/0", " "), [("#0", "a")] + [(" ", "a")] * 3)
        self.assertEqual(origin_text(read_chain("group 3"), stock, "/0", "/0"), [("#0", "a"), ("/0", "a")])
        self.assertEqual(origin_text(read_chain("wrap 8 1"), stock, "/1", " "), [("#0", "a")] + [(" ", "a")] * 4)
        self.assertEqual(origin_text(read_chain("wrap 8 1"), stock, "/1", "#0"), None)
        self.assertEqual(origin_text(Chain(), stock, "#0", "#0"), [("#0", "a")])

    def test_marks_that_the_stock_does_not_have(self):
        for mark in ("|0", "#1", "/3"):
            self.assertEqual(origin_text(Chain(), Stock(["#0", " "]), mark, mark), None)
        self.assertEqual(origin_text(read_chain("shift 1"), Stock(["#0", " "]), "#1", "#0"), [("#0", "a")])
        self.assertEqual(origin_text(read_chain("shift 1"), Stock(["#0", " "]), "#1", "#1"), None)

    def test_origins_by_hand(self):
        stock = Stock(["#0", "#2", " ", "|1"], longest=1)
        self.assertEqual(origins(Chain(), stock), {" ": [" "], "#0": ["#0"], "#2": ["#2"], "|1": ["|1"]})
        self.assertEqual(origins(read_chain("turn | #; align # 3; group 1"), stock),
                         {"#3": ["#0", "#2", "|1"], "/3": [" "]})
        self.assertEqual(origins(Chain(), Stock(["#3"])), {"#3": ["#3"]})

    def test_large_chains_and_stocks(self):
        for writing in LARGE_WRITINGS:
            for made, marks in origins(read_chain(writing), LARGE_STOCK).items():
                text = origin_text(read_chain(writing), LARGE_STOCK, made, marks[-1])
                self.check_origin_text(text, writing, LARGE_STOCK, made, marks[-1])


class PowersTest(unittest.TestCase):
    def plain_powers(self, writing, stock, most):
        """Return what powers tells, by all texts with few words."""
        made = []
        for text in few_texts(stock, 2000):
            rows = [text]
            for _ in range(most):
                rows.append(done([writing], rows[-1]))
            made.append(rows)
        for many in range(most):
            for more in range(1, most - many + 1):
                if all([rows[many + more] == rows[many] for rows in made]):
                    return (many, more)
        return None

    def test_powers(self):
        for writing, stock, most in itertools.product(POWER_WRITINGS, STOCKS + [STOCK], (1, 2, 3)):
            found = powers(read_chain(writing), stock, most=most)
            self.assertEqual(found, self.plain_powers(writing, stock, most), (writing, str(stock), most))

    def test_most(self):
        chain = read_chain("join |; turn / |; group 2")
        stock = Stock(["#0", " "])
        self.assertEqual([powers(chain, stock, most=most) for most in (1, 2, 3)], [None, None, (1, 2)])
        self.assertEqual([powers(Chain(), stock, most=most) for most in (1, 2, 3)], [(0, 1)] * 3)
        chain = read_chain("group 2")
        self.assertEqual([powers(chain, stock, most=most) for most in (1, 2, 3)], [None, (1, 1), (1, 1)])
        chain = read_chain("shift 1")
        stock = Stock(["#1", " "])
        self.assertEqual([powers(chain, stock, most=most) for most in (1, 2, 3)], [None, None, (2, 1)])
        self.assertEqual(powers(chain, stock), (2, 1))

    def test_the_least_n_comes_ahead_of_the_least_p(self):
        # Each chain that is done n + p times as n times is so with n + 1 and p, and with n and 2 p, too.
        self.assertEqual(powers(read_chain("turn | /; turn / |"), Stock(["#0", "|0"])), (0, 1))
        self.assertEqual(powers(read_chain("join |; alone 0; turn / |"), Stock(["#0", " ", "|0"])), (1, 1))
        swap = read_chain("join |; turn / |; group 1")
        self.assertEqual([powers(swap, Stock(["#0", " "]), most=most) for most in (1, 2, 3)], [None, None, (1, 2)])

    def test_large_chains_and_stocks(self):
        for writing, found in [("group 9; turn / |", (1, 1)), ("wrap 8 same; hang 1; turn | /", None),
                               ("join |/; wrap 8 same; turn / |", (1, 1)), ("join |; group 9; turn / |", (2, 1))]:
            self.assertEqual(powers(read_chain(writing), LARGE_STOCK), found, writing)


class WrongTest(unittest.TestCase):
    chains, stocks = (InvalidChain, NO_CHAINS), (InvalidStock, NO_STOCKS)

    def test_wrong_arguments(self):
        good = {"back": Chain(), "chain": read_chain("group 2"), "stock": STOCK}
        wrong = {"back": self.chains, "chain": self.chains, "stock": self.stocks}
        check_wrong_arguments(self, restores, good, wrong)
        check_wrong_arguments(self, takes_back, good, wrong)
        made_by = (InvalidChain, [value for value in NO_CHAINS if value is not None])
        check_wrong_arguments(self, takes_back, {**good, "made_by": Chain()}, {**wrong, "made_by": made_by})
        good = {"chain": read_chain("wrap 3 same"), "stock": STOCK}
        for call in (confused, never_told, origins, powers):
            check_wrong_arguments(self, call, good, {"chain": self.chains, "stock": self.stocks})

    def test_wrong_marks_and_integers(self):
        good = {"chain": read_chain("wrap 3 same"), "stock": STOCK}
        wrong = {"chain": self.chains, "stock": self.stocks}
        marks = (InvalidMark, NO_MARKS)
        check_wrong_arguments(self, origin_text, {**good, "made": "/1", "mark": " "},
                              {**wrong, "made": marks, "mark": marks})
        integers = (InvalidInteger, ODD_VALUES + [0, 4, -1, 10 ** 29, "1", [1], Chain()])
        check_wrong_arguments(self, powers, {**good, "most": 2}, {**wrong, "most": integers})

    def test_arguments_by_position_and_by_name(self):
        back, chain = chains_of(["join /", "wrap 3 same"])
        self.assertEqual(takes_back(back, chain, STOCK), takes_back(stock=STOCK, chain=chain, back=back))
        self.assertEqual(restores(back, chain, STOCK), restores(stock=STOCK, chain=chain, back=back))
        for call in (confused, never_told, origins, powers):
            self.assertEqual(call(back, STOCK), call(stock=STOCK, chain=back))
            check_arguments(self, call, back, STOCK)
        self.assertEqual(origin_text(back, STOCK, " ", "/0"), origin_text(mark="/0", made=" ", stock=STOCK, chain=back))
        for call, arguments in [(takes_back, (back, chain, STOCK, back)), (powers, (back, STOCK, 2))]:
            with self.assertRaises(TypeError):
                call(*arguments)

    def test_results_are_new(self):
        back, chain = chains_of(["join /", "wrap 3 same"])
        check_arguments(self, takes_back, back, chain, STOCK)
        check_arguments(self, takes_back, back, chain, STOCK, made_by=chain)
        check_arguments(self, restores, back, chain, STOCK)
        check_arguments(self, origin_text, back, STOCK, " ", "/0")


if __name__ == "__main__":
    unittest.main()
