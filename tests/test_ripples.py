"""Points [101] to [104]: how far one change goes, and what stops it."""

import itertools
import unittest

from reflows.chains import Chain, read_chain
from reflows.errors import InvalidChain, InvalidChange, InvalidStock
from reflows.machines import Machine
from reflows.ripples import meeting, ripple, ripple_paper, stops
from reflows.stocks import Stock
from reflows.texts import is_text
from tests.helper import ODD_VALUES
from tests.plain import (
    LARGE_STOCK, LARGE_WRITINGS, NO_CHAINS, NO_STOCKS, STOCKS, check_arguments, check_wrong_arguments, done, few_texts,
    small_cases, state_behind,
)

STOCK = Stock(["#0", " ", "|0"], shortest=1, longest=3)
CHANGES = ("word", "mark", "token")


class ExampleTest(unittest.TestCase):
    def test_ripple(self):
        found = [ripple(read_chain("wrap 4 same"), STOCK, "word"), ripple(read_chain("group 2"), STOCK, "mark"),
                 ripple(read_chain("alone 2"), STOCK, "word")]
        self.assertEqual(found, [None, None, 1])

    def test_paper_and_stops(self):
        found = [ripple(read_chain("join |"), STOCK, "mark"), ripple_paper(read_chain("join |"), STOCK, "mark"),
                 stops(read_chain("wrap 4 same"), STOCK)[:1]]
        self.assertEqual(found, [0, None, [(" ", 3)]])

    def test_tokens_put_in(self):
        found = [ripple(read_chain("alone 2"), STOCK, "token"), ripple(read_chain("group 2"), STOCK, "token"),
                 ripple(read_chain("hang 1"), Stock(["#0", "/0", "|0"]), "token")]
        self.assertEqual(found, [1, None, 0])


def changes_of(text, stock, change):
    """Yield each change of a text over a stock: the other text, and the indexes behind the change in both."""
    for index, (mark, word) in enumerate(text):
        if change == "word":
            others = [(mark, "a" * length) for length in stock.lengths() if length != len(word)]
        else:
            others = [(other, word) for other in stock.marks() if other != mark]
        for other in others if change != "token" else []:
            if index > 0 or other[0][0] == "#":
                yield text[:index] + [other] + text[index + 1:], index + 1, index + 1
    for index in range(1, len(text) + 1) if change == "token" else []:
        for mark, length in stock.letters():
            yield text[:index] + [(mark, "a" * length)] + text[index:], index, index + 1


def unlike(writing, one, other, behind, there):
    """Return how many marks come out otherwise behind a change, told by the indexes behind it in both texts."""
    pairs = list(zip(done([writing], one)[behind:], done([writing], other)[there:], strict=True))
    return len([index for index, (token, token_there) in enumerate(pairs) if token[0] != token_there[0]])


class RippleTest(unittest.TestCase):
    def check_ripple(self, writing, stock, change, budget):
        """Check a ripple with all texts with few words, and what is told of it."""
        note = (writing, str(stock), change)
        chain = read_chain(writing)
        greatest = ripple(chain, stock, change)
        paper = ripple_paper(chain, stock, change)
        if greatest is not None:
            for text in few_texts(stock, budget):
                for other, behind, there in changes_of(text, stock, change):
                    self.assertLessEqual(unlike(writing, text, other, behind, there), greatest, (note, text, other))
        if greatest == 0:
            self.assertIsNone(paper, note)
            return
        self.assertEqual([paper.__class__, [part.__class__ for part in paper]], [tuple, [list] * 3])
        one, other, ring = paper
        places = self.places(one, other, stock, change)
        self.assertNotEqual(places, [], note)
        if greatest is not None:
            self.assertEqual(ring, [])
            self.assertIn(greatest, [unlike(writing, one, other, *place) for place in places], note)
        else:
            self.check_ring(writing, stock, one, other, ring)

    def places(self, one, other, stock, change):
        """Return the places at which one text can have been changed into the other one."""
        self.assertTrue(stock.holds(one) and stock.holds(other))
        return [(behind, there) for text, behind, there in changes_of(one, stock, change)
                if [(mark, len(word)) for mark, word in text] == [(mark, len(word)) for mark, word in other]]

    def check_ring(self, writing, stock, one, other, ring):
        """Check that each time that a ring is appended at least one mark of it comes out otherwise."""
        self.assertNotEqual(ring, [])
        for _ in range(12):
            behind, there = len(one), len(other)
            one, other = one + ring, other + ring
            self.assertTrue(stock.holds(one) and is_text(other))
            self.assertGreater(unlike(writing, one, other, behind, there), 0, (writing, str(stock)))

    def test_many_chains(self):
        for writing, stock in small_cases(120):
            for change in CHANGES:
                self.check_ripple(writing, stock, change, 60)

    def test_ripples_by_hand(self):
        stock = Stock(["#0", " ", "|0"], shortest=1, longest=2)
        for writing, expected in [
            ("-", [0, 0, 0]), ("alone 1", [1, 0, 1]), ("group 2", [0, None, None]), ("wrap 4 same", [None] * 3),
            ("join |; group 1", [0, 0, 0]), ("alone 0; hang 1", [0, 0, 0]), ("turn | #; group 2", [0, None, None]),
        ]:
            found = [ripple(read_chain(writing), stock, change) for change in CHANGES]
            self.assertEqual(found, expected, writing)
            for change in CHANGES:
                self.check_ripple(writing, stock, change, 700)

    def test_greatest_ripples_of_several_marks(self):
        # Each line of the first step begins anew, so a word changes the breaks of the second one up to its end.
        stock = Stock(["#0", " "], longest=2)
        for writing, greatest in [("group 3; wrap 3 same", 2), ("group 4; wrap 3 same", 3), ("group 4; wrap 5 same", 2),
                                  ("group 2; wrap 3 same", 1), ("group 4; alone 1", 1)]:
            self.assertEqual(ripple(read_chain(writing), stock, "word"), greatest, writing)
            self.check_ripple(writing, stock, "word", 700)
        self.assertEqual(ripple(read_chain("group 8; wrap 3 same"), stock, "word"), 7)
        self.check_ripple("group 8; wrap 3 same", stock, "word", 100)

    def test_stocks_that_let_no_change(self):
        one_length, one_mark = Stock(["#0", " "], longest=1), Stock(["#1"], longest=3)
        for writing in ("-", "wrap 3 same", "alone 1; group 2", "shift 1"):
            chain = read_chain(writing)
            self.assertEqual([ripple(chain, one_length, "word"), ripple_paper(chain, one_length, "word")], [0, None])
            self.assertEqual([ripple(chain, one_mark, "mark"), ripple_paper(chain, one_mark, "mark")], [0, None])
            for change in CHANGES:
                self.check_ripple(writing, one_length, change, 100)
                self.assertEqual(ripple(chain, one_mark, change), 0)

    def test_the_mark_of_the_first_token(self):
        # With soft breaks alone behind it, the mark of the paragraph tells the indentation for ever.
        chain, stock = read_chain("hang 0"), Stock(["#0", "#1", "/3"], longest=1)
        self.assertEqual(ripple(chain, stock, "mark"), None)
        self.check_ripple("hang 0", stock, "mark", 100)
        self.assertEqual(ripple(read_chain("hang 3"), stock, "mark"), 0)
        # In a text of one token only a mark of the kind # can be changed, and nothing is behind it.
        self.assertEqual(ripple(Chain(), stock, "mark"), 0)

    def test_tokens_put_in_behind_the_first_one_and_at_the_end(self):
        stock = Stock(["#0", " "], shortest=1, longest=1)
        found = list(changes_of([("#0", "a"), (" ", "a")], stock, "token"))
        self.assertEqual([place for _, *place in found], [[1, 2], [1, 2], [2, 3], [2, 3]])
        for writing in ("group 3", "alone 0", "wrap 5 same; hang 1"):
            self.check_ripple(writing, stock, "token", 200)
        # A word that is put in between two short ones parts what is behind it alone.
        stock = Stock(["#0", " "], shortest=1, longest=2)
        self.assertEqual(ripple(read_chain("alone 1"), stock, "token"), 1)
        self.check_ripple("alone 1", stock, "token", 200)

    def test_rings_that_are_appended_several_times(self):
        for writing, stock in [
            ("wrap 5 same", Stock(["#0", " "], longest=3)), ("group 3", Stock(["#0", " ", "|1"], longest=1)),
            ("wrap 7 same; hang 1", Stock(["#0", " ", "#2"], shortest=2, longest=3)),
            ("hang 0", Stock(["#0", "#1", "/0"])),
        ]:
            changes = [change for change in CHANGES if ripple(read_chain(writing), stock, change) is None]
            self.assertNotEqual(changes, [], writing)
            for change in changes:
                self.check_ripple(writing, stock, change, 50)

    def test_large_chains_and_stocks(self):
        # In the third one the lines of the first step have eight words: seven of them can change.
        expected = [[0, None, None], [None] * 3, [7, None, None], [None] * 3]
        for writing, greatest in zip(LARGE_WRITINGS, expected):
            found = [ripple(read_chain(writing), LARGE_STOCK, change) for change in CHANGES]
            self.assertEqual(found, greatest, writing)
            for change in CHANGES:
                self.check_ripple(writing, LARGE_STOCK, change, 5)


class StopsTest(unittest.TestCase):
    def ends(self, machine, letters):
        """Return the states in which a machine can be behind letters, whatever it has read ahead of them."""
        states = list(range(1, len(machine)))
        if letters and letters[0][0][0] == "#":
            states.append(0)
        for letter in letters:
            states = sorted({machine.read(state, *letter)[1] for state in states})
        return states

    def test_stops(self):
        for writing, stock in small_cases(120):
            machine = Machine(read_chain(writing), stock)
            expected = [letter for letter in machine.letters() if len(self.ends(machine, [letter])) == 1]
            found = stops(read_chain(writing), stock)
            self.assertEqual([found, found.__class__], [expected, list], (writing, str(stock)))
            self.assertLessEqual(set(stock.first_letters()), set(found))

    def test_stops_by_hand(self):
        every = STOCK.letters()
        for writing, expected in [
            ("-", every), ("alone 2", every), ("join |", every), ("hang 1", every),
            ("wrap 3 same", [letter for letter in every if letter != (" ", 1)]),
            ("group 2", [letter for letter in every if letter[0] != " "]),
            ("wrap 12 same", [letter for letter in every if letter[0] != " "]),
            ("wrap 7 same; join |", [letter for letter in every if letter[0] != " "]),
        ]:
            self.assertEqual(stops(read_chain(writing), STOCK), expected, writing)

    def test_nothing_that_is_changed_ahead_of_a_stop_changes_a_mark_behind_it(self):
        for writing, stock in small_cases(40):
            found = stops(read_chain(writing), stock)
            made = {}
            for text in few_texts(stock, 300):
                for index, (mark, word) in enumerate(text):
                    if (mark, len(word)) in found:
                        marks = [token[0] for token in done([writing], text)[index + 1:]]
                        self.assertEqual(made.setdefault(repr(text[index:]), marks), marks, (writing, text))

    def can_meet(self, machine):
        """Tell whether each two states can come to one, by letters that have no mark of the kind #."""
        letters = [letter for letter in machine.letters() if letter[0][0] != "#"]
        apart = set(itertools.combinations(range(1, len(machine)), 2))
        many = None
        while many != len(apart):
            many = len(apart)
            for pair in sorted(apart):
                for letter in letters:
                    one, other = sorted([machine.read(state, *letter)[1] for state in pair])
                    if one == other or (one, other) not in apart:
                        apart.discard(pair)
        return not apart

    def check_meeting(self, writing, stock):
        """Check a meeting; return whether there is one."""
        machine = Machine(read_chain(writing), stock)
        found = meeting(read_chain(writing), stock)
        if found is None:
            self.assertFalse(self.can_meet(machine), (writing, str(stock)))
            return False
        self.assertIs(found.__class__, list)
        self.assertTrue(stock.holds(stock.text_at(1, 0) + found))
        self.assertNotIn("#", [mark[0] for mark, _ in found])
        letters = [(mark, len(word)) for mark, word in found]
        self.assertEqual(len(self.ends(machine, letters)), 1, (writing, str(stock)))
        return True

    def test_meetings(self):
        found = [self.check_meeting(writing, stock) for writing, stock in small_cases(150)]
        self.assertGreater(min(found.count(True), found.count(False)), 10)

    def test_meetings_by_hand(self):
        blanks = Stock(["#0", " "], longest=1)
        for writing in ("-", "group 1", "alone 0", "wrap 2 same", "shift 1; join /"):
            self.assertEqual(meeting(read_chain(writing), blanks), [])
        for writing in ("group 2", "wrap 4 same", "group 3; hang 1"):
            self.assertEqual(meeting(read_chain(writing), blanks), None)
        # Each line has two words, whatever their lengths are.
        self.assertEqual(meeting(read_chain("wrap 7 same"), Stock(["#0", " "], shortest=2, longest=3)), None)
        self.assertEqual(meeting(read_chain("hang 1"), Stock(["#0", "#1", "/0", " "])), None)
        for writing, stock in [("wrap 7 same", Stock(["#0", " "], shortest=2, longest=4)), ("hang 1; group 3", STOCK),
                               ("wrap 8 same; wrap 7 same", Stock(["#0", " "], longest=3)), ("wrap 4 same", STOCK)]:
            self.assertTrue(self.check_meeting(writing, stock), writing)

    def test_stocks_of_paragraphs_alone(self):
        for stock in STOCKS[:3]:
            for writing in ("-", "wrap 3 1", "shift 1; hang 1"):
                self.assertEqual(stops(read_chain(writing), stock), stock.letters())
                self.assertEqual(meeting(read_chain(writing), stock), [])

    def test_a_meeting_holds_behind_all_texts(self):
        for writing, stock in small_cases(40):
            machine = Machine(read_chain(writing), stock)
            found = meeting(read_chain(writing), stock)
            if found is not None:
                ends = {state_behind(machine, text + found) for text in few_texts(stock, 200) if text}
                self.assertEqual(len(ends), 1)

    def test_large_chains_and_stocks(self):
        for writing in LARGE_WRITINGS:
            self.assertTrue(self.check_meeting(writing, LARGE_STOCK) or writing == LARGE_WRITINGS[0], writing)
            self.assertLessEqual(set(LARGE_STOCK.first_letters()), set(stops(read_chain(writing), LARGE_STOCK)))


class WrongTest(unittest.TestCase):
    def test_wrong_arguments(self):
        good = {"chain": read_chain("wrap 3 same"), "stock": STOCK}
        wrong = {"chain": (InvalidChain, NO_CHAINS), "stock": (InvalidStock, NO_STOCKS)}
        for call in (stops, meeting):
            check_wrong_arguments(self, call, good, wrong)
        no_changes = ODD_VALUES + [0, 1, "", "words", "Word", "word ", " mark", "tokens", "MARK", ["word"], ("mark",),
                                   {"word": 1}, Chain(), STOCK]
        good, wrong = {**good, "change": "word"}, {**wrong, "change": (InvalidChange, no_changes)}
        for call in (ripple, ripple_paper):
            check_wrong_arguments(self, call, good, wrong)

    def test_arguments_by_position_and_by_name(self):
        chain = read_chain("wrap 3 same")
        for change in CHANGES:
            for call in (ripple, ripple_paper):
                self.assertEqual(call(chain, STOCK, change), call(change=change, stock=STOCK, chain=chain))
            check_arguments(self, ripple_paper, chain, STOCK, change)
            check_arguments(self, ripple_paper, read_chain("alone 2"), STOCK, change)
        for call in (stops, meeting):
            self.assertEqual(call(chain, STOCK), call(stock=STOCK, chain=chain))
            check_arguments(self, call, chain, STOCK)


if __name__ == "__main__":
    unittest.main()
