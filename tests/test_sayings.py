"""Points [111], [112] and [113]: rows of marks and lengths that come, or never do."""

import inspect
import random
import unittest

from reflows.chains import Chain, read_chain
from reflows.errors import InvalidChain, InvalidRow, InvalidStock, InvalidText
from reflows.machines import Machine
from reflows.sayings import comes, is_never_paper, is_pattern, never_paper, pattern_places
from reflows.stocks import Stock
from reflows.words import all_marks
from tests.helper import NO_TEXTS, ODD_VALUES, check_raises, mixed_texts, tupled
from tests.plain import (
    LARGE_STOCK, LARGE_WRITINGS, NO_CHAINS, NO_STOCKS, check_arguments, check_told, check_wrong_arguments, done,
    letters_read, only_letters_a, small_cases,
)

STOCK = Stock(["#0", " ", "|0"], shortest=1, longest=3)
SHORT = [(["#0", "|0", "/0"], 1, 1), (["/0"], 1, 1)]

PATTERNS = [
    SHORT, [([" "], 1, 2)], [(["#0"], 1, 30)], [(["#0"], 30, 30)], [(all_marks(), 1, 30)] * 6,
    [(["/3", " ", "#2"], 2, 7), ([" "], 1, 1), (["|0"], 3, 3)],
]
ITEMS_OF_NO_KIND = ODD_VALUES + [
    0, "", "#0", "a", (["#0"], 1), (["#0"], 1, 2, 3), (["#0"],), [["#0"], 1, 2], ([], 1, 2), ((), 1, 2), ("#0", 1, 2),
    ("", 1, 2), (None, 1, 2), ({"#0": 1}, 1, 2), (["#4"], 1, 2), ([""], 1, 2), ([None], 1, 2), ([["#0"]], 1, 2),
    (["#0", "#0"], 1, 2), ([" ", "#0", " "], 1, 2), (["#0"], 0, 2), (["#0"], 1, 31), (["#0"], 2, 1), (["#0"], 31, 31),
    (["#0"], -1, 1), (["#0"], True, 2), (["#0"], 1, True), (["#0"], None, 2), (["#0"], 1, None), (["#0"], "1", "2"),
    (["#0"], [1], 2), (1, ["#0"], 2), (["#0", "x"], 1, 2), (["#0"], 1, 10 ** 29), (Chain(), 1, 2),
]
NO_PATTERNS = (
    ODD_VALUES + [0, 1, "", "#0", (["#0"], 1, 2), {0: (["#0"], 1, 2)}, [(["#0"], 1, 2)] * 7, Chain(), STOCK]
    + [[item] for item in ITEMS_OF_NO_KIND] + [[(["#0"], 1, 2), item] for item in ITEMS_OF_NO_KIND]
)


def some_patterns(many):
    """Yield so many patterns, the same ones each time; those of one or two items are the most."""
    chooser = random.Random(many)
    for _ in range(many):
        pattern = []
        for _ in range(chooser.choice([1, 1, 2, 2, 2, 3, 3, 4, 5, 6])):
            marks = chooser.sample(all_marks(), chooser.choice([1, 3, 6, 9])) + [" "] * chooser.choice([0, 1])
            shortest = chooser.choice([1, 1, 1, 2, 3])
            pattern.append((sorted(set(marks)), shortest, shortest + chooser.choice([0, 0, 1, 2, 9])))
        yield pattern


def places_in(text, pattern):
    """Return the indexes at which a text has a pattern."""
    found = []
    for index in range(len(text)):
        tokens = text[index:index + len(pattern)]
        fits = [mark in item[0] and item[1] <= len(word) <= item[2] for (mark, word), item in zip(tokens, pattern)]
        if len(tokens) == len(pattern) and all(fits):
            found.append(index)
    return found


def begun_of(made, pattern):
    """Return the numbers of the items that are begun behind what a chain has made."""
    return [many for many in range(1, len(pattern)) if len(made) - many in places_in(made, pattern[:many])]


class ExampleTest(unittest.TestCase):
    def test_comes(self):
        found = [comes(SHORT, read_chain("wrap 4 same"), STOCK), len(comes(SHORT, read_chain("group 1"), STOCK))]
        self.assertEqual(found, [None, 2])

    def test_patterns(self):
        found = [list(pattern_places([("#0", "a"), (" ", "to"), (" ", "be")], [([" "], 1, 2)])), is_pattern([([], 1, 2)])]
        self.assertEqual(found, [[1, 2], False])

    def test_papers(self):
        chain = read_chain("wrap 4 same")
        self.assertIs(is_never_paper(SHORT, chain, STOCK, never_paper(SHORT, chain, STOCK)), True)


class PatternTest(unittest.TestCase):
    def test_patterns(self):
        for pattern in PATTERNS + list(some_patterns(50)):
            self.assertIs(is_pattern(pattern), True, pattern)
            self.assertIs(is_pattern(tuple(pattern)), True)
            self.assertIs(is_pattern(tupled(pattern)), True)

    def test_what_is_no_pattern(self):
        for value in NO_PATTERNS:
            self.assertIs(is_pattern(value), False, value)
        for pattern in PATTERNS:
            self.assertIs(is_pattern([list(item) for item in pattern]), False)
        self.assertIs(is_pattern(PATTERNS[4] + PATTERNS[1]), False)

    def test_places(self):
        patterns = PATTERNS + list(some_patterns(60))
        for text in mixed_texts(40, 12, (1, 2, 3)):
            for pattern in patterns:
                found = list(pattern_places(text, pattern))
                self.assertEqual(found, places_in(text, pattern), (text, pattern))
                self.assertEqual(list(pattern_places(tuple(text), tupled(pattern))), found)

    def test_places_by_hand(self):
        text = [("#0", "a"), (" ", "bb"), (" ", "cc"), (" ", "d"), ("/1", "eee")]
        blanks = [([" "], 2, 2), ([" "], 1, 2)]
        for pattern, places in [(blanks, [1, 2]), (blanks * 3, []), ([(["#0", " "], 1, 1), (["/1", " "], 2, 3)], [0, 3]),
                                ([(["/1"], 3, 3)], [4]), ([(["/1"], 4, 9)], []), ([(["#0"], 1, 1)], [0]),
                                ([(["/1"], 1, 9), ([" "], 1, 9)], [])]:
            self.assertEqual(list(pattern_places(text, pattern)), places, pattern)
            self.assertEqual(list(pattern_places([], pattern)), [])

    def test_places_are_yielded_one_by_one(self):
        self.assertTrue(inspect.isgeneratorfunction(pattern_places))
        text, pattern = [("#0", "a"), (" ", "a"), (" ", "a")], [([" "], 1, 1)]
        found = pattern_places(text, pattern)
        self.assertEqual(next(found), 1)
        # What was handed in may be changed behind.
        text[1:] = []
        pattern[0][0][:] = ["|0"]
        pattern[:] = []
        self.assertEqual([next(found), next(found, None)], [2, None])

    def test_wrong_arguments_raise_at_the_first_index(self):
        text = [("#0", "a")]
        for wrong in NO_TEXTS:
            for pattern in (SHORT, None, []):
                found = pattern_places(wrong, pattern)
                check_raises(self, InvalidText, "value", wrong, next, found)
        for pattern in NO_PATTERNS:
            found = pattern_places(text, pattern)
            check_raises(self, InvalidRow, "value", pattern, next, found)
        self.assertEqual(list(pattern_places(pattern=[(["#0"], 1, 1)], text=text)), [0])

    def test_arguments_stay(self):
        text, pattern = [("#0", "a"), (" ", "a")], [([" "], 1, 1)]
        self.assertEqual(list(pattern_places(text, pattern)), [1])
        self.assertEqual([text, pattern], [[("#0", "a"), (" ", "a")], [([" "], 1, 1)]])


class ComesTest(unittest.TestCase):
    def check_comes(self, pattern, writing, stock):
        """Check what is told of a pattern, and return whether it comes."""
        note = (pattern, writing, str(stock))
        chain = read_chain(writing)
        told = comes(pattern, chain, stock)
        check_told(self, told, stock, lambda text: places_in(done([writing], text), pattern) != [], note)
        if told is not None:
            only_letters_a(self, told)
        paper = never_paper(pattern, chain, stock)
        self.assertIs(paper is None, told is not None, note)
        if paper is not None:
            self.check_paper(paper, pattern, Machine(chain, stock))
            self.assertIs(is_never_paper(pattern, chain, stock, paper), True, note)
        return told is not None

    def check_paper(self, paper, pattern, machine):
        """Check that a paper shows that a pattern never comes, by the words of [113]."""
        self.assertIs(paper.__class__, list)
        self.assertIn((0, []), paper)
        for item in paper:
            self.assertEqual([item.__class__, item[1].__class__], [tuple, list])
            state, begun = item
            for letter in letters_read(machine, state):
                mark, reached = machine.read(state, *letter)
                numbers = [number + 1 for number in [0] + begun
                           if mark in pattern[number][0] and pattern[number][1] <= letter[1] <= pattern[number][2]]
                self.assertIn((reached, numbers), paper)
                self.assertNotIn(len(pattern), numbers)

    def test_many_patterns(self):
        patterns = list(some_patterns(150))
        found = [self.check_comes(pattern, *case) for pattern, case in zip(patterns, small_cases(140))]
        self.assertGreater(min(found.count(True), found.count(False)), 30)

    def test_patterns_of_several_items(self):
        blank, soft = ([" "], 1, 9), (["/0", "/1", "/2", "/3"], 1, 9)
        stock = Stock(["#0", " ", "|1"], longest=2)
        for pattern, writing, many in [
            ([blank] * 2, "group 3", 3), ([blank] * 3, "group 3", None), ([soft, blank, soft], "group 2", 5),
            ([soft, soft], "group 2", None), ([soft] * 6, "group 1", 7), ([soft] * 6, "wrap 2 3", 7), ([blank] * 6, "-", 7),
            ([(["#0"], 1, 9)] * 6, "wrap 3 same", 6), ([([" "], 1, 1), blank], "wrap 5 same", 3),
            ([([" "], 2, 2), ([" "], 2, 2)], "wrap 6 same", None), ([(["#0"], 2, 2), ([" "], 2, 2)], "wrap 5 same", 2),
            ([(["|1"], 1, 9), soft], "group 2", None), ([(["|1"], 1, 9), soft], "alone 0", 3),
            ([blank, blank, (["/1"], 1, 1), blank, blank, (["/1"], 2, 2)], "group 3", 8),
        ]:
            told = comes(pattern, read_chain(writing), stock)
            self.assertEqual(told if told is None else len(told), many, (pattern, writing))
            self.check_comes(pattern, writing, stock)

    def test_items_that_overlap(self):
        # What has failed behind several items can have begun with fewer of them.
        hard, both = (["|1"], 1, 1), (["|1", " "], 1, 1)
        stock = Stock(["#0", " ", "|1"], longest=1)
        for pattern in ([hard, hard, (["#0"], 1, 1)], [both, hard, both, hard], [both, both, hard, both, (["/1"], 1, 1)],
                        [hard, both, hard, hard, both, (["#0"], 1, 1)]):
            for writing in ("-", "group 2", "join |; group 3", "group 1; turn / |", "hang 1; alone 0"):
                self.check_comes(pattern, writing, stock)

    def test_patterns_that_come_at_the_first_token_alone(self):
        stock = Stock(["#0", "#1", " "], longest=2)
        self.assertEqual(comes([(["#1"], 2, 2)], Chain(), stock), [("#1", "aa")])
        self.assertEqual(comes([(["#2"], 1, 1)], read_chain("shift 1"), stock), [("#1", "a")])
        self.assertEqual(comes([(["#0"], 1, 9)], read_chain("shift 1"), stock), None)
        for pattern in ([(["#1"], 2, 2)], [(["#0", "#1"], 1, 30)], [(["#2"], 1, 30)]):
            for writing in ("-", "shift 1", "wrap 3 same"):
                self.check_comes(pattern, writing, stock)

    def test_items_that_the_stock_does_not_have(self):
        for pattern in ([(["#0"], 4, 30)], [(["#3", "/3"], 1, 3)], [(["#0"], 1, 3), (["|2"], 1, 3)]):
            for writing in ("-", "wrap 3 same", "group 2"):
                self.assertFalse(self.check_comes(pattern, writing, STOCK))

    def test_begun_numbers_of_texts(self):
        # A paper holds what is begun behind each text.
        for pattern, (writing, stock) in zip(some_patterns(60), small_cases(50)):
            paper = never_paper(pattern, read_chain(writing), stock)
            if paper is not None:
                machine = Machine(read_chain(writing), stock)
                for text in [text for many in range(4) for text in list(stock.texts(many))[:80]]:
                    state = 0
                    for mark, word in text:
                        state = machine.read(state, mark, len(word))[1]
                    self.assertIn((state, begun_of(done([writing], text), pattern)), paper)

    def test_large_chains_and_stocks(self):
        marks = [" ", "#1", "|0", "|2", "/3", "/1", "/2", "/0"]
        slow = [(marks, 1, 5)] * 5 + [(["#0"], 1, 1)]
        for writing in LARGE_WRITINGS:
            chain = read_chain(writing)
            self.assertEqual(comes(slow, chain, LARGE_STOCK), None)
            self.assertIs(is_never_paper(slow, chain, LARGE_STOCK, never_paper(slow, chain, LARGE_STOCK)), True)
            told = comes([([" "], 1, 1)] * 2 + [(["/1", "/2", "/3"], 5, 5)], chain, LARGE_STOCK)
            self.assertNotEqual(places_in(done([writing], told), [([" "], 1, 1)] * 2), [])


class PaperTest(unittest.TestCase):
    chain = read_chain("wrap 4 same")
    # No line has three words. What is of the second item is of the first one, too, so that both can be begun.
    pattern = [(["#0", "|0", "/0", " "], 1, 2), ([" "], 1, 1), ([" "], 1, 3), (["/0"], 1, 1)]
    paper = never_paper(pattern, chain, STOCK)

    def check(self, value, expected):
        self.assertIs(is_never_paper(self.pattern, self.chain, STOCK, value), expected, value)

    def test_any_order_and_several_times(self):
        self.check(self.paper, True)
        self.check(self.paper[::-1], True)
        self.check(sorted(self.paper), True)
        self.check(self.paper * 2, True)
        self.check(self.paper[3:] + self.paper, True)
        self.check(self.paper * 100, True)
        self.check(tupled(self.paper), True)
        self.check(tuple(self.paper), True)
        self.check([(state, tuple(begun)) for state, begun in self.paper], True)

    def test_a_tuple_too_few(self):
        self.assertGreater(len(self.paper), 4)
        for place in range(len(self.paper)):
            self.check(self.paper[:place] + self.paper[place + 1:], False)
        self.check([], False)
        self.check([(0, [])], False)
        self.check([item for item in self.paper if item[0] > 0], False)

    def closed(self, start):
        """Return all tuples that follow one, or None if the pattern is ended on the way."""
        machine = Machine(self.chain, STOCK)
        found = [start]
        for state, begun in found:
            for letter in letters_read(machine, state):
                mark, reached = machine.read(state, *letter)
                numbers = [number + 1 for number in [0] + begun if mark in self.pattern[number][0]
                           and self.pattern[number][1] <= letter[1] <= self.pattern[number][2]]
                if len(self.pattern) in numbers:
                    return None
                if (reached, numbers) not in found:
                    found.append((reached, numbers))
        return found

    def test_more_tuples(self):
        machine = Machine(self.chain, STOCK)
        seen = []
        for state in range(len(machine)):
            for begun in ([], [1], [2], [3], [1, 2], [1, 3], [2, 3], [1, 2, 3]):
                more = self.closed((state, begun))
                seen.append(more is None)
                if more is not None:
                    self.check(self.paper + more, True)
                    self.check(more + self.paper, True)
                    closed = all([item in self.paper for item in more[1:]])
                    self.check(self.paper + more[:1], closed)
                else:
                    self.check(self.paper + [(state, begun)], False)
        self.assertEqual(set(seen), {True, False})

    def test_tuples_that_are_no_states(self):
        many = len(Machine(self.chain, STOCK))
        for item in ODD_VALUES + [
            0, "a", (many, []), (-1, []), (0,), (0, [], []), [0, []], (True, []), (False, []), (None, []), ("0", []),
            ([], 0), ([0], []), (10 ** 29, []), (0, None), (0, "a"), (0, {}), (0, 0), (0, True), self.chain,
        ]:
            self.check(self.paper + [item], False)
            self.check([item] + self.paper, False)

    def test_begun_lists_that_are_none(self):
        for begun in ([2, 1], [1, 1], [0], [0, 1], [4], [5], [-1], [True], [None], ["1"], [[1]], [1, 2, 2], [1, 3, 2],
                      {1: 1}, "1", [1, True], (2, 1), (1, 1), (4,), [10 ** 29]):
            for state in (1, 2):
                self.check(self.paper + [(state, begun)], False)

    def test_begun_lists_out_of_order_in_the_place_of_a_right_one(self):
        found = [item for item in self.paper if len(item[1]) > 1]
        self.assertNotEqual(found, [])
        for state, begun in found:
            others = [item for item in self.paper if item != (state, begun)]
            self.check(others + [(state, begun[::-1])], False)
            self.check(others + [(state, begun + begun[-1:])], False)
            self.check(others + [(state, begun)], True)

    def test_no_papers(self):
        for value in ODD_VALUES + [0, 7, "", "a", {0: (0, [])}, {item[0]: item for item in self.paper}, (0, []),
                                   [self.paper], (self.paper,), self.chain, STOCK, dict(self.paper)]:
            self.check(value, False)

    def test_papers_of_patterns_that_come(self):
        # Without the tuples behind which the pattern is ended, others are missing.
        chain = read_chain("group 1")
        machine = Machine(chain, STOCK)
        self.assertEqual(never_paper(SHORT, chain, STOCK), None)
        every = [(state, begun) for state in range(len(machine)) for begun in ([], [1])]
        for value in (every, every[:1], every[1:], [], [(0, [])]):
            self.assertIs(is_never_paper(SHORT, chain, STOCK, value), False)

    def test_papers_of_others(self):
        for pattern, writing, stock in [(SHORT, "wrap 4 same", STOCK), (self.pattern[:2], "wrap 4 same", STOCK),
                                        (self.pattern, "wrap 8 same", STOCK), (self.pattern, "group 3", STOCK)]:
            self.assertIs(is_never_paper(pattern, read_chain(writing), stock, self.paper), False)

    def test_a_pattern_of_one_item(self):
        pattern = [(["/3"], 1, 3)]
        paper = never_paper(pattern, self.chain, STOCK)
        self.assertEqual([begun for _, begun in paper], [[]] * len(Machine(self.chain, STOCK)))
        self.assertIs(is_never_paper(pattern, self.chain, STOCK, paper), True)
        self.assertIs(is_never_paper(pattern, self.chain, STOCK, paper + [(1, [1])]), False)


class WrongTest(unittest.TestCase):
    def test_wrong_arguments(self):
        good = {"pattern": SHORT, "chain": read_chain("wrap 3 same"), "stock": STOCK}
        wrong = {"pattern": (InvalidRow, NO_PATTERNS), "chain": (InvalidChain, NO_CHAINS),
                 "stock": (InvalidStock, NO_STOCKS)}
        for call in (comes, never_paper):
            check_wrong_arguments(self, call, good, wrong)
        check_wrong_arguments(self, is_never_paper, {**good, "value": None}, wrong)

    def test_arguments_by_position_and_by_name(self):
        chain = read_chain("wrap 4 same")
        for call in (comes, never_paper):
            for pattern in (SHORT, [([" "], 1, 2), (["|0"], 1, 1)]):
                found = call(pattern, chain, STOCK)
                self.assertEqual(call(stock=STOCK, chain=chain, pattern=pattern), found)
                self.assertEqual(call(tupled(pattern), chain, STOCK), found)
                check_arguments(self, call, pattern, chain, STOCK)
        paper = never_paper(SHORT, chain, STOCK)
        self.assertIs(is_never_paper(value=paper, stock=STOCK, chain=chain, pattern=SHORT), True)
        self.assertIs(is_never_paper(tupled(SHORT), chain, STOCK, paper), True)
        check_arguments(self, is_never_paper, SHORT, chain, STOCK, paper)


if __name__ == "__main__":
    unittest.main()
