"""Points [121] to [124]: the sources of reports."""

import copy
import inspect
import itertools
import random
import unittest

from reflows.chains import Chain, read_chain
from reflows.errors import (
    InvalidChain, InvalidInteger, InvalidMark, InvalidRow, InvalidStock, InvalidText, NoInput, TooMany,
)
from reflows.stocks import Stock
from reflows.toldback import Sources, least_source
from reflows.words import all_marks
from tests.helper import NO_TEXTS, ODD_VALUES, check_raises, tupled
from tests.plain import (
    LARGE_STOCK, LARGE_WRITINGS, NO_CHAINS, NO_MARKS, NO_STOCKS, chains_of, check_wrong_arguments, done, repr_of,
    small_cases, some_texts, spoil,
)

STOCK = Stock(["#0", " ", "/0"], shortest=1, longest=4)
MADE = [("#0", "to"), ("/0", "be"), (" ", "or"), ("/0", "not")]
WRAP = read_chain("wrap 5 same")
NO_NUMBERS = ODD_VALUES + [-1, "0", "", 10 ** 29, -10 ** 29, WRAP]
NO_REPORTS = ODD_VALUES + [
    0, 7, "", "ab", {0: (WRAP, MADE)}, {"a": 1}, WRAP, (WRAP, MADE), [WRAP, MADE], [[WRAP, MADE]], [(WRAP,)],
    [(WRAP, MADE, MADE)], [()], [None], [(WRAP, MADE), None], [(WRAP, MADE), [WRAP, MADE]], [(WRAP, MADE)] * 4,
    [(None, None)] * 4, [(None, None), "ab"], [(WRAP, MADE), (WRAP, MADE), (WRAP,)], [(WRAP, MADE)] * 300, STOCK,
]


def plain_sources(stock, writings, texts):
    """Return all sources of reports, in ascending order, by the words of [121] and [54]."""
    words = [word for _, word in texts[0]]
    if not all([len(word) in stock.lengths() for word in words]):
        return []
    found = []
    # Rows of marks in the order of [4] are texts in ascending order: their words have the same lengths.
    for marks in itertools.product(*([stock.marks()] * len(words))):
        source = list(zip(marks, words))
        if not marks or marks[0][0] == "#":
            made = [[mark for mark, _ in done([writing], source)] for writing in writings]
            if made == [[mark for mark, _ in text] for text in texts]:
                found.append(source)
    return found


def told_cases(many, reports, words):
    """Yield so many tuples of a stock, the writings of chains, and the texts of their reports.

    Most texts are what the chains make of one text, so that there are sources; some have another mark. Half of the
    chains join breaks first, so that there are several sources.
    """
    chooser = random.Random(many * 10 + words)
    for *writings, stock in small_cases(many, reports):
        if chooser.random() < 0.5:
            kinds = chooser.choice(["|", "/", "|/"])
            writings = [f"join {kinds}; {writing}" if writing != "-" else f"join {kinds}" for writing in writings]
        text = some_texts(stock, 1, words)[0] if words else []
        texts = [done([writing], text) for writing in writings]
        if chooser.random() < 0.3 and words > 1:
            at, place = chooser.randrange(reports), chooser.randrange(1, words)
            texts[at][place] = (chooser.choice(all_marks()), texts[at][place][1])
        yield stock, writings, texts


def sources_of(stock, writings, texts):
    """Return the sources of reports."""
    return Sources(stock, list(zip(chains_of(writings), texts)))


class ExampleTest(unittest.TestCase):
    def test_sources(self):
        told = Sources(STOCK, [(WRAP, MADE)])
        found = [told.amount(), told.sure(), told.marks_at(3), told.marks_at(1), told.often(3, " ")]
        self.assertEqual(found, [2, [0, 1, 2], [" ", "/0"], ["/0"], 1])
        found = [told.source_at(0)[3], told.with_report(read_chain("group 9"), MADE).amount()]
        self.assertEqual(found, [(" ", "not"), 1])

    def test_least_source(self):
        check_raises(self, NoInput, "value", MADE, least_source, STOCK, read_chain("join /"), MADE)


class SourcesTest(unittest.TestCase):
    def check_sources(self, stock, writings, texts):
        """Check all that is told of the sources of reports, and return how many there are."""
        note = (str(stock), writings, texts)
        told = sources_of(stock, writings, texts)
        sources = plain_sources(stock, writings, texts)
        self.assertEqual(list(told.each()), sources, note)
        self.assertEqual(told.amount(), len(sources), note)
        self.assertEqual([told.source_at(number) for number in range(len(sources))], sources, note)
        check_raises(self, InvalidInteger, "value", len(sources), told.source_at, len(sources))
        self.check_marks(told, sources, len(texts[0]))
        for source in sources[:20]:
            self.assertIs(source in told, True)
            self.assertIs(tuple(source) in told, True)
        if len(writings) == 1:
            self.check_least(stock, writings[0], texts[0], sources)
        return len(sources)

    def check_marks(self, told, sources, many):
        """Check what is told of the marks at each index."""
        found = []
        for index in range(many):
            here = [source[index][0] for source in sources]
            found.append([mark for mark in all_marks() if mark in here])
            self.assertEqual(told.marks_at(index), found[-1])
            self.assertEqual([told.often(index, mark) for mark in all_marks()], [here.count(mark) for mark in all_marks()])
        self.assertEqual(told.sure(), [index for index in range(many) if len(found[index]) == 1])

    def check_least(self, stock, writing, text, sources):
        """Check the first source of one report."""
        if sources:
            self.assertEqual(least_source(stock, read_chain(writing), text), sources[0])
        else:
            check_raises(self, NoInput, "value", text, least_source, stock, read_chain(writing), text)

    def test_one_report(self):
        found = []
        for words, many in ((1, 20), (2, 30), (4, 60), (6, 40)):
            found += [self.check_sources(*case) for case in told_cases(many, 1, words)]
        self.assertGreater(min(found.count(0), found.count(1), len([amount for amount in found if amount > 2])), 15)

    def test_two_reports(self):
        found = [self.check_sources(*case) for words in (2, 3, 5) for case in told_cases(30, 2, words)]
        self.assertGreater(min(found.count(0), found.count(1), len([amount for amount in found if amount > 2])), 8)

    def test_three_reports(self):
        found = [self.check_sources(*case) for words in (2, 4, 5) for case in told_cases(30, 3, words)]
        self.assertGreater(min(found.count(0), found.count(1), len([amount for amount in found if amount > 2])), 5)

    def test_texts_that_no_chain_makes(self):
        chooser = random.Random(7)
        for writing, stock in small_cases(30):
            words = ["a" * chooser.choice(stock.lengths()) for _ in range(3)]
            for _ in range(4):
                marks = [chooser.choice(all_marks()[1:5])] + chooser.choices(all_marks(), k=2)
                self.check_sources(stock, [writing], [list(zip(marks, words))])

    def test_texts_without_tokens(self):
        for reports in (1, 2, 3):
            for stock, writings, texts in told_cases(10, reports, 0):
                self.assertEqual(self.check_sources(stock, writings, texts), 1)
                told = sources_of(stock, writings, texts)
                self.assertEqual([list(told.each()), told.source_at(0), told.sure()], [[[]], [], []])
                self.assertTrue([] in told and () in told)
                self.assertFalse([("#0", "a")] in told)
                for index in (0, -1):
                    check_raises(self, InvalidInteger, "value", index, told.marks_at, index)
                    check_raises(self, InvalidInteger, "value", index, told.often, index, " ")
        self.assertEqual(least_source(STOCK, WRAP, []), [])

    def test_words_that_the_stock_does_not_have(self):
        stock = Stock(["#0", " ", "/0"], shortest=2, longest=3)
        for words in (["aa", "aaaa"], ["a", "aaa"], ["aa", "aaa", "a" * 30], ["a"]):
            text = list(zip(["#0", " ", "/0"], words))
            for writings in (["-"], ["wrap 5 same"], ["join |", "group 9"], ["-", "-", "-"]):
                texts = [text] * len(writings)
                told = sources_of(stock, writings, texts)
                self.assertEqual([told.amount(), list(told.each()), told.sure()], [0, [], []])
                self.assertEqual(told.marks_at(0), [])
                self.assertEqual(told.often(0, "#0"), 0)
                self.assertFalse(text in told)
                self.check_sources(stock, writings, texts)

    def test_marks_that_the_stock_does_not_have(self):
        for marks in (["#1", " "], ["#0", "|0"], ["#3", "/3"]):
            text = list(zip(marks, ["a", "a"]))
            self.assertEqual(self.check_sources(STOCK, ["-"], [text]), 0)
        self.assertEqual(self.check_sources(STOCK, ["shift 1"], [[("#1", "a"), ("/1", "a")]]), 1)

    def test_sources_begin_with_a_paragraph_though_other_breaks_become_one(self):
        stock = Stock(["#0", " ", "/0", "|1"], longest=2)
        for writing in ("turn / #", "turn |/ #; align # 0", "group 1; turn / #"):
            for words in (1, 2, 3):
                text = [("#0", "a")] * words
                self.check_sources(stock, [writing], [text])
                self.check_sources(stock, [writing, "align #|/ 0; turn |/ #"], [text, text])
        self.assertEqual(Sources(stock, [(read_chain("turn / #"), [("#0", "a")])]).amount(), 1)

    def test_where_there_are_no_sources(self):
        told = Sources(STOCK, [(read_chain("join /"), MADE)])
        self.assertEqual([told.amount(), list(told.each()), told.sure()], [0, [], []])
        for index in range(4):
            self.assertEqual(told.marks_at(index), [])
            self.assertEqual([told.often(index, mark) for mark in all_marks()], [0] * 13)
        for number in (0, -1):
            check_raises(self, InvalidInteger, "value", number, told.source_at, number)
        self.assertFalse(MADE in told)

    def test_the_words_are_those_of_the_first_report(self):
        one, other = [("#0", "to"), (" ", "be")], [("#0", "zz"), (" ", "yy")]
        told = Sources(STOCK, [(WRAP, one), (Chain(), other)])
        self.assertEqual(list(told.each()), [one])
        self.assertEqual(told.source_at(0), one)
        self.assertEqual(least_source(STOCK, WRAP, other), other)
        self.assertTrue(one in told)
        # Another report behind: the words are still those of the first one.
        self.assertEqual(list(told.with_report(WRAP, other).each()), [one])

    def test_in_with_other_values(self):
        told = Sources(STOCK, [(WRAP, MADE)])
        source = told.source_at(1)
        for words in (["to", "be", "or", "now"], ["aa", "aa", "aa", "aaa"], ["to", "be", "or"], ["to", "be", "or", "no"],
                      ["to", "be", "or", "not", "to"]):
            self.assertIs(list(zip([mark for mark, _ in source] + [" "], words)) in told, False, words)
        for mark in all_marks():
            for index in range(4):
                other = source[:index] + [(mark, source[index][1])] + source[index + 1:]
                self.assertIs(other in told, other in list(told.each()), other)
        for value in NO_TEXTS + ODD_VALUES + NO_CHAINS + [0, "a", told, [source], source[0], dict(source), source[::-1]]:
            self.assertIs(value in told, False, value)


class AmountTest(unittest.TestCase):
    def test_amounts_of_more_than_thirty_digits(self):
        # A chain that joins all soft breaks: each blank that is made comes of either.
        stock = Stock(["#0", " ", "/0"], longest=2)
        made = [("#0", "a")] + [(" ", "z" * (1 + number % 2)) for number in range(299)]
        told = Sources(stock, [(read_chain("join /"), made)])
        amount = 2 ** 299
        self.assertEqual(told.amount(), amount)
        self.assertEqual(told.sure(), [0])
        self.assertEqual([told.often(7, " "), told.often(299, "/0"), told.often(0, "#0"), told.often(5, "#0")],
                         [2 ** 298, 2 ** 298, amount, 0])
        chooser = random.Random(3)
        for number in [0, 1, 2, amount - 1, amount - 2] + [chooser.randrange(amount) for _ in range(40)]:
            source = told.source_at(number)
            digits = f"{number:0299b}"
            marks = ["#0"] + ["/0" if digit == "1" else " " for digit in digits]
            self.assertEqual(source, list(zip(marks, [word for _, word in made])))
            self.assertTrue(source in told)
        for number in (amount, amount + 1, -1):
            check_raises(self, InvalidInteger, "value", number, told.source_at, number)

    def test_each_makes_only_the_sources_that_are_asked_for(self):
        stock = Stock(["#0", " ", "/0"], longest=2)
        made = [("#0", "a")] + [(" ", "a")] * 299
        told = Sources(stock, [(read_chain("join /"), made)])
        self.assertTrue(inspect.isgeneratorfunction(Sources.each))
        found = list(itertools.islice(told.each(), 50))
        self.assertEqual(found, [told.source_at(number) for number in range(50)])
        one, other = told.each(), told.each()
        self.assertEqual(next(one), made)
        self.assertEqual([next(one), next(other)], found[1::-1])

    def test_ascending_order(self):
        stock = Stock(["#0", "#2", " ", "/0", "|1"], longest=2)
        made = [("#2", "ab"), (" ", "c"), (" ", "de"), ("|1", "f"), (" ", "g")]
        told = Sources(stock, [(read_chain("align # 2; join /"), made)])
        numbers = [stock.number_of(source) for source in told.each()]
        self.assertEqual(numbers, sorted(set(numbers)))
        self.assertEqual(len(numbers), 16)

    def test_a_report_of_300_tokens(self):
        # The sources of what a chain made hold the text it was made of.
        for writing in LARGE_WRITINGS:
            text = some_texts(LARGE_STOCK, 1, 300)[0]
            chain = read_chain(writing)
            told = Sources(LARGE_STOCK, [(chain, chain(text))])
            self.assertTrue(text in told)
            self.check_drawn(told, [(chain, chain(text))])
            self.assertEqual(least_source(LARGE_STOCK, chain, chain(text)), told.source_at(0))

    def test_three_reports_of_300_tokens(self):
        chains = chains_of(["group 7; join |; align # 1", "wrap 8 same; hang 2", "join |; alone 3; hang 1"])
        text = some_texts(LARGE_STOCK, 1, 300)[0]
        reports = [(chain, chain(text)) for chain in chains]
        told = Sources(LARGE_STOCK, reports)
        self.assertTrue(text in told)
        self.check_drawn(told, reports)

    def check_drawn(self, told, reports):
        """Check some drawn sources, and that the marks at an index are as many as the sources."""
        amount = told.amount()
        chooser = random.Random(5)
        last = None
        for number in sorted([0, amount - 1] + [chooser.randrange(amount) for _ in range(5)]):
            source = told.source_at(number)
            self.assertTrue(LARGE_STOCK.holds(source) and source in told)
            self.assertEqual([chain(source) for chain, _ in reports], [text for _, text in reports])
            self.assertTrue(last is None or LARGE_STOCK.number_of(last) <= LARGE_STOCK.number_of(source))
            last = source
        for index in (0, 1, 150, 299):
            amounts = [told.often(index, mark) for mark in all_marks()]
            self.assertEqual(sum(amounts), amount)
            self.assertEqual(told.marks_at(index), [mark for mark, often in zip(all_marks(), amounts) if often])
            self.assertIs(index in told.sure(), amount in amounts)


class WithReportTest(unittest.TestCase):
    def test_one_report_more(self):
        for stock, writings, texts in list(told_cases(25, 3, 4)) + list(told_cases(5, 3, 2)):
            chains = chains_of(writings)
            one = Sources(stock, [(chains[0], texts[0])])
            before = list(one.each())
            two = one.with_report(chains[1], texts[1])
            three = two.with_report(chain=chains[2], text=texts[2])
            self.assertEqual([one.__class__, two.__class__], [Sources, Sources])
            self.assertEqual(list(two.each()), plain_sources(stock, writings[:2], texts[:2]))
            self.assertEqual(list(three.each()), plain_sources(stock, writings, texts))
            self.assertEqual(list(three.each()), list(sources_of(stock, writings, texts).each()))
            self.assertEqual(list(one.each()), before)

    def test_three_reports_and_one_more(self):
        three = Sources(STOCK, [(WRAP, MADE)] * 3)
        self.assertEqual(three.amount(), 2)
        for chain, text in ((WRAP, MADE), (Chain(), tuple(MADE))):
            with self.assertRaises(TooMany) as caught:
                three.with_report(chain, text)
            self.assertEqual([caught.exception.count, caught.exception.__class__], [4, TooMany])
        # The arguments are checked ahead of the number of the reports.
        check_raises(self, InvalidChain, "value", None, three.with_report, None, MADE)
        check_raises(self, InvalidText, "value", "", three.with_report, WRAP, "")
        self.assertEqual(three.amount(), 2)

    def test_wrong_arguments(self):
        one = Sources(STOCK, [(WRAP, MADE)])
        good = {"chain": WRAP, "text": MADE}
        others = [MADE[:3], [], MADE + [(" ", "a")], MADE[:3] + [("/0", "no")], [("#0", "t")] + MADE[1:]]
        wrong = {"chain": (InvalidChain, NO_CHAINS),
                 "text": (InvalidText, [text for text in NO_TEXTS if text not in ([], ())] + others)}
        check_wrong_arguments(self, one.with_report, good, wrong)
        self.assertEqual(one.amount(), 2)


class WrongTest(unittest.TestCase):
    def test_wrong_stocks_and_rows(self):
        good = {"stock": STOCK, "reports": [(WRAP, MADE)]}
        wrong = {"stock": (InvalidStock, NO_STOCKS), "reports": (InvalidRow, NO_REPORTS)}
        check_wrong_arguments(self, Sources, good, wrong)

    def test_wrong_reports_one_by_one(self):
        right = (WRAP, MADE)
        for ahead in ([], [right], [right, right]):
            for behind in ([], [right], [(None, None)], [(WRAP, None)]):
                if len(ahead) + len(behind) > 2:
                    continue
                for chain in NO_CHAINS:
                    for text in (MADE, None, "a"):
                        reports = ahead + [(chain, text)] + behind
                        check_raises(self, InvalidChain, "value", chain, Sources, STOCK, reports)
                for text in NO_TEXTS:
                    reports = ahead + [(WRAP, text)] + behind
                    check_raises(self, InvalidText, "value", text, Sources, STOCK, reports)

    def test_words_of_other_lengths(self):
        for other in (MADE[:3], [], MADE + [(" ", "a")], MADE[:3] + [("/0", "no")], MADE[::-1][3:] + MADE[:3]):
            for reports in ([(WRAP, MADE), (WRAP, other)], [(WRAP, MADE), (WRAP, MADE), (Chain(), other)],
                            [(WRAP, MADE), (WRAP, other), (None, None)]):
                check_raises(self, InvalidText, "value", other, Sources, STOCK, reports)
            # The lengths are held against those of the first text, whatever the second one has.
            reports = [(WRAP, other), (WRAP, MADE), (WRAP, other)]
            check_raises(self, InvalidText, "value", reports[1][1], Sources, STOCK, reports)

    def test_the_first_wrong_report_counts(self):
        chain, text = [Chain()], [("#9", "a")]
        for reports, error, held in [
            ([(WRAP, text), (chain, MADE)], InvalidText, text), ([(chain, text), (WRAP, text)], InvalidChain, chain),
            ([(WRAP, MADE), (chain, text), (chain, text)], InvalidChain, chain),
            ([(WRAP, MADE), (WRAP, text), (chain, text)], InvalidText, text),
        ]:
            check_raises(self, error, "value", held, Sources, STOCK, reports)

    def test_wrong_numbers(self):
        told = Sources(STOCK, [(WRAP, MADE)])
        for number in NO_NUMBERS + [2, 3]:
            check_raises(self, InvalidInteger, "value", number, told.source_at, number)
            check_raises(self, InvalidInteger, "value", number, told.source_at, number=number)

    def test_wrong_indexes_and_marks(self):
        told = Sources(STOCK, [(WRAP, MADE)])
        for index in NO_NUMBERS + [4, 5]:
            check_raises(self, InvalidInteger, "value", index, told.marks_at, index)
            check_raises(self, InvalidInteger, "value", index, told.marks_at, index=index)
        check_wrong_arguments(self, told.often, {"index": 3, "mark": " "}, {
            "index": (InvalidInteger, NO_NUMBERS + [4, 5]), "mark": (InvalidMark, NO_MARKS),
        })
        self.assertEqual([told.often(mark="/0", index=3), told.often(3, "/3"), told.often(3, "#0")], [1, 0, 0])

    def test_wrong_arguments_of_least_source(self):
        good = {"stock": STOCK, "chain": WRAP, "text": MADE}
        wrong = {"stock": (InvalidStock, NO_STOCKS), "chain": (InvalidChain, NO_CHAINS),
                 "text": (InvalidText, [text for text in NO_TEXTS if text not in ([], ())])}
        check_wrong_arguments(self, least_source, good, wrong)
        self.assertEqual(least_source(text=MADE, chain=WRAP, stock=STOCK), Sources(STOCK, [(WRAP, MADE)]).source_at(0))
        text = [("#0", "aaaaa")]
        check_raises(self, NoInput, "value", text, least_source, STOCK, WRAP, text)
        text = (("#1", "a"),)
        check_raises(self, NoInput, "value", text, least_source, STOCK, WRAP, text)

    def test_nothing_changes_by_a_call_that_raises(self):
        told = Sources(STOCK, [(WRAP, MADE)])
        for call, arguments in [(told.source_at, (9,)), (told.marks_at, (9,)), (told.often, (0, "x")),
                                (told.with_report, (WRAP, []))]:
            with self.assertRaises(ValueError):
                call(*arguments)
        self.assertEqual([told.amount(), told.sure(), len(list(told.each()))], [2, [0, 1, 2], 2])


class ListTest(unittest.TestCase):
    def test_tuples_in_the_place_of_lists(self):
        found = list(Sources(STOCK, [(WRAP, MADE), (Chain(), MADE)]).each())
        for reports in (((WRAP, MADE), (Chain(), MADE)), tuple([(WRAP, tuple(MADE)), (Chain(), tuple(MADE))]),
                        [(WRAP, tuple(MADE)), (Chain(), MADE)]):
            told = Sources(reports=reports, stock=STOCK)
            self.assertEqual(list(told.each()), found)
            self.assertEqual([source.__class__ for source in told.each()], [list] * len(found))
        self.assertEqual(least_source(STOCK, WRAP, tuple(MADE)), least_source(STOCK, WRAP, MADE))
        self.assertEqual(list(Sources(STOCK, [(WRAP, MADE)]).with_report(Chain(), tuple(MADE)).each()), found)

    def test_lists_that_were_handed_in_may_be_changed(self):
        one, other = copy.copy(MADE), copy.copy(MADE)
        reports = [(WRAP, one), (Chain(), other)]
        told = Sources(STOCK, reports)
        expected = list(told.each())
        one[1:] = []
        other[0] = ("#3", "z")
        reports.clear()
        self.assertEqual([told.amount(), list(told.each()), told.marks_at(3)], [1, expected, ["/0"]])
        third = copy.copy(MADE)
        more = told.with_report(WRAP, third)
        third.clear()
        self.assertEqual(list(more.each()), expected)
        self.assertEqual(list(told.with_report(WRAP, MADE).each()), expected)

    def test_arguments_stay(self):
        reports = [(WRAP, copy.copy(MADE)), (read_chain("group 9"), copy.copy(MADE))]
        before = repr_of(copy.deepcopy(reports))
        told = Sources(STOCK, reports)
        told.with_report(WRAP, reports[0][1])
        least_source(STOCK, WRAP, reports[0][1])
        self.assertTrue(told.source_at(0) in told)
        self.assertEqual(repr_of(reports), before)

    def test_each_call_returns_new_lists(self):
        told = Sources(STOCK, [(WRAP, MADE)])
        for call in (lambda: told.source_at(1), lambda: told.marks_at(3), told.sure, lambda: list(told.each()),
                     lambda: list(told.each())[0], lambda: least_source(STOCK, WRAP, MADE)):
            one = call()
            kept = copy.deepcopy(one)
            spoil(one)
            self.assertEqual(call(), kept)
        for source in told.each():
            spoil(source)
        self.assertEqual([len(source) for source in told.each()], [4, 4])

    def test_a_source_is_not_the_text_of_its_report(self):
        text = [("#0", "a"), ("/0", "b")]
        source = least_source(STOCK, Chain(), text)
        self.assertEqual(source, text)
        self.assertIsNot(source, text)

    def test_tupled_reports_whose_tokens_are_lists_are_wrong(self):
        text = [["#0", "a"]]
        check_raises(self, InvalidText, "value", text, Sources, STOCK, [(WRAP, text)])
        self.assertEqual(tupled(MADE), tuple(MADE))


if __name__ == "__main__":
    unittest.main()
