"""Points [91], [92] and [93]: how wide lines get, and how many lines come of many words."""

import itertools
import unittest
from fractions import Fraction
from math import gcd

from reflows.chains import Chain, read_chain
from reflows.errors import InvalidChain, InvalidStock
from reflows.machines import Machine
from reflows.rates import is_share_paper, line_share, share_paper, widest, widest_paper
from reflows.stocks import Stock
from reflows.texts import marks_of, widths
from tests.helper import NO_TEXTS, ODD_VALUES, tupled
from tests.plain import (
    LARGE_STOCK, LARGE_WRITINGS, NO_CHAINS, NO_STOCKS, check_arguments, check_wrong_arguments, done, few_texts,
    only_letters_a, reads_of, small_cases, some_texts, state_behind,
)

STOCK = Stock(["#0", " "], shortest=1, longest=3)
BOTH = (False, True)


def breaks_of(tokens):
    """Return the number of the tokens with a break."""
    return len([mark for mark, _ in tokens if mark != " "])


class ExampleTest(unittest.TestCase):
    def test_widest(self):
        found = [widest(read_chain(writing), STOCK) for writing in ("wrap 5 same", "group 2", "join /")]
        self.assertEqual(found, [5, 7, None])

    def test_shares(self):
        found = [line_share(read_chain("group 3"), Stock(["#0", " "])), line_share(read_chain("join /"), STOCK),
                 line_share(Chain(), STOCK, most=True)]
        self.assertEqual(found, [(1, 3), (0, 1), (1, 1)])

    def test_papers(self):
        chain = read_chain("group 3")
        self.assertIs(is_share_paper(chain, STOCK, share_paper(chain, STOCK)), True)


class WidestTest(unittest.TestCase):
    def check_widest(self, writing, stock, texts):
        """Check what is told of the width of lines, also with some texts."""
        chain = read_chain(writing)
        found = widest(chain, stock)
        paper = widest_paper(chain, stock)
        self.assertEqual([paper.__class__, len(paper)], [tuple, 2])
        text, ring = paper
        self.assertEqual([text.__class__, ring.__class__], [list, list])
        self.assertTrue(stock.holds(text))
        only_letters_a(self, text + ring)
        self.assertIs(found is None, ring != [])
        if found is None:
            self.check_ring(text, ring, writing, stock)
        else:
            self.assertEqual(widths(done([writing], text))[-1], found, writing)
            for tried in texts:
                self.assertLessEqual(max(widths(done([writing], tried)), default=0), found, (writing, tried))

    def check_ring(self, text, ring, writing, stock):
        """Check that blanks alone are made of a ring, however often it is appended."""
        for many in (1, 2, 3, 20):
            self.assertTrue(stock.holds(text + ring * many))
            made = marks_of(done([writing], text + ring * many))
            self.assertEqual(set(made[len(text):]), {" "}, (writing, str(stock)))

    def test_many_chains(self):
        for writing, stock in small_cases(200):
            self.check_widest(writing, stock, few_texts(stock))

    def test_lines_without_a_greatest_width(self):
        # What is joined behind the last step that counts brings lines of any width.
        stock = Stock(["#0", " ", "|0", "/0"], shortest=2, longest=3)
        for writing in ("-", "join |/", "wrap 4 same; join /", "group 2; turn / |; join |", "wrap 4 same; join |",
                        "alone 2", "alone 3; shift 1", "group 1; join |", "join |; alone 2"):
            self.assertEqual(widest(read_chain(writing), stock), None, writing)
            self.check_widest(writing, stock, [])

    def test_a_ring_that_is_read_from_its_own_state_alone(self):
        for writing, text in [("wrap 7 1; join |", "_ #0 #3 |1 : 1 2"), ("wrap 3 1; join |; shift 1", "_ #2 |0 |1 : 1 2"),
                              ("wrap 7 3; join |", "_ #1 |0 : 2 4"), ("wrap 3 0; join |; turn |/ /", "_ #2 |0 : 1 3"),
                              ("wrap 4 3; wrap 6 same; join |", "_ #2 |1 /2 : 1 2"), ("wrap 7 1; join |", "_ #2 |0 : 2 4")]:
            self.check_widest(writing, Stock.parse(text), [])

    def test_lines_with_a_greatest_width(self):
        stock = Stock(["#3", " ", "|1", "/0"], shortest=2, longest=3)
        for writing, width in [("wrap 8 same", 8), ("wrap 7 same", 7), ("wrap 1 0", 6), ("group 1", 6), ("group 3", 14),
                               ("alone 1", 6), ("group 2; shift -3", 7), ("wrap 6 same; hang 3; group 1", 6),
                               ("group 2; shift -1; join /; group 3", 13), ("wrap 8 3; align #|/ 0", 8)]:
            self.assertEqual(widest(read_chain(writing), stock), width, writing)
            self.check_widest(writing, stock, few_texts(stock))

    def test_stocks_without_blanks(self):
        for marks, width in [(["#0"], 4), (["#3", "#1"], 7), (["#0", "/2", "|1"], 6)]:
            self.assertEqual(widest(Chain(), Stock(marks)), width)
            self.check_widest("-", Stock(marks), few_texts(Stock(marks)))
        self.assertEqual(widest(Chain(), Stock(["#0"], longest=30)), 30)
        self.assertEqual(widest(read_chain("join /"), Stock(["#0", "/2"])), None)

    def test_a_line_of_a_soft_break(self):
        # The widest line begins with an indentation that only the chain makes.
        stock = Stock(["#0", " "], longest=1)
        self.check_widest("group 3; hang 3", stock, few_texts(stock))
        self.assertEqual(widest(read_chain("group 3; hang 3"), stock), 8)

    def test_large_chains_and_stocks(self):
        # Nine words of five letters with eight blanks behind an indentation of 3 come to 56.
        for writing, width in zip(LARGE_WRITINGS, [56, 56, 8, 8]):
            self.check_widest(writing, LARGE_STOCK, some_texts(LARGE_STOCK, 30, 40))
            self.assertEqual(widest(read_chain(writing), LARGE_STOCK), width, writing)


class ShareTest(unittest.TestCase):
    def check_share(self, writing, stock, most):
        """Check a share, and that its paper shows it for all texts."""
        chain = read_chain(writing)
        note = (writing, str(stock), most)
        share = line_share(chain, stock, most=most)
        self.assertEqual([share.__class__, len(share), gcd(*share)], [tuple, 2, 1], note)
        lines, words = share
        self.assertTrue(0 <= lines <= words, note)
        paper = share_paper(chain, stock, most=most)
        self.assertEqual([paper.__class__, [part.__class__ for part in paper]], [tuple, [list] * 3])
        text, ring, heights = paper
        machine = Machine(chain, stock)
        self.assertTrue(stock.holds(text) and ring)
        only_letters_a(self, text + ring)
        self.assertEqual(state_behind(machine, text + ring), state_behind(machine, text), note)
        for many in (1, 3):
            made = done([writing], text + ring * many)
            self.assertEqual(breaks_of(made[len(text):]) * words, lines * len(ring) * many, note)
        self.assertEqual([len(heights), {height.__class__ for height in heights}], [len(machine), {int}])
        for state, _, mark, reached in reads_of(machine):
            gain = words * breaks_of([(mark, "a")]) - lines + heights[state] - heights[reached]
            self.assertTrue(gain <= 0 if most else gain >= 0, note)
        self.assertIs(is_share_paper(chain, stock, paper, most=most), True, note)

    def test_many_chains(self):
        for writing, stock in small_cases(150):
            for most in BOTH:
                self.check_share(writing, stock, most)

    def farthest_breaks(self, chain, stock, most, words):
        """Return the least or the greatest number of breaks that come of all texts with so many words, read plainly."""
        best = max if most else min
        numbers = {chain.begin(): 0}
        for place in range(words):
            found = {}
            for state, (mark, length) in itertools.product(numbers, stock.letters() if place else stock.first_letters()):
                made, reached = chain.read(state, mark, length)
                number = numbers[state] + (made != " ")
                found[reached] = best(found.get(reached, number), number)
            numbers = found
        return best(numbers.values())

    def test_shares_of_many_words(self):
        for writing, stock in small_cases(25):
            for most in BOTH:
                chain = read_chain(writing)
                share = Fraction(*line_share(chain, stock, most=most))
                # Each state is left once at most on the way to the ring of the share.
                for words in (60, 61, 120):
                    number = self.farthest_breaks(chain, stock, most, words)
                    self.assertLessEqual(abs(number - share * words), len(Machine(chain, stock)), (writing, str(stock)))

    def test_shares_by_hand(self):
        blanks = Stock(["#0", " "], shortest=1, longest=1)
        for writing, stock, least, greatest in [
            ("-", blanks, (0, 1), (1, 1)), ("group 3", blanks, (1, 3), (1, 1)), ("wrap 7 same", blanks, (1, 4), (1, 1)),
            ("wrap 8 3", blanks, (1, 4), (1, 1)), ("alone 1", blanks, (0, 1), (1, 1)), ("alone 0", blanks, (1, 1), (1, 1)),
            ("join |/", Stock(["#0", "/0", "|1"]), (0, 1), (1, 1)), ("turn |/ #", Stock(["#0", "/0"]), (1, 1), (1, 1)),
            ("wrap 8 same", Stock(["#0", " "], shortest=2, longest=3), (1, 3), (1, 1)),
            ("wrap 8 same; wrap 6 same", blanks, (1, 3), (1, 1)), ("group 3; join /; group 2", blanks, (1, 2), (1, 1)),
            ("group 2; turn / |; join /", Stock(["#0", " ", "/0"]), (1, 2), (1, 1)),
            ("group 2; turn / |; join |", Stock(["#0", " ", "/0"]), (0, 1), (1, 1)),
        ]:
            found = [line_share(read_chain(writing), stock, most=most) for most in BOTH]
            self.assertEqual(found, [least, greatest], (writing, str(stock)))

    def test_stocks_with_one_mark_and_one_length(self):
        for stock, writing, most in itertools.product(
            [Stock(["#0"], longest=1), Stock(["#3"], shortest=30, longest=30)], ["-", "wrap 3 same", "shift 1"], BOTH,
        ):
            self.assertEqual(line_share(read_chain(writing), stock, most=most), (1, 1))
            self.check_share(writing, stock, most)

    def test_most_can_be_left_out(self):
        chain = read_chain("wrap 4 1")
        self.assertEqual(line_share(chain, STOCK), line_share(chain, STOCK, most=False))
        self.assertNotEqual(line_share(chain, STOCK), line_share(chain, STOCK, most=True))
        self.assertEqual(share_paper(chain, STOCK), share_paper(chain, STOCK, most=False))
        paper = share_paper(chain, STOCK, most=True)
        found = [is_share_paper(chain, STOCK, paper, most=most) for most in BOTH]
        self.assertEqual(found + [is_share_paper(chain, STOCK, paper)], [False, True, False])

    def test_a_ring_of_several_tokens(self):
        for writing, many in [("group 3", 3), ("wrap 8 same", 4), ("group 8", 8)]:
            for stock in (Stock(["#0", " "]), Stock(["#0", " "], longest=1)):
                self.assertEqual(len(share_paper(read_chain(writing), stock)[1]) % many, 0)

    def test_large_chains_and_stocks(self):
        for writing, least in zip(LARGE_WRITINGS, [(1, 9), (1, 9), (1, 4), (1, 3)]):
            for most in BOTH:
                self.check_share(writing, LARGE_STOCK, most)
            self.assertEqual(line_share(read_chain(writing), LARGE_STOCK), least)


class PaperTest(unittest.TestCase):
    """A chain of a share that is neither 0 nor 1; the words of its stock have one length."""

    chain = read_chain("group 3")
    stock = Stock(["#0", " "], shortest=2, longest=2)
    paper = share_paper(chain, stock)

    def check(self, value, expected):
        self.assertIs(is_share_paper(self.chain, self.stock, value), expected, value)

    def test_papers_of_other_words_and_lists(self):
        text, ring, heights = self.paper
        other = ([(mark, "zy") for mark, _ in text], [(mark, "be") for mark, _ in ring], heights)
        for value in (self.paper, other, tupled(self.paper), (tuple(text), ring, heights),
                      (text, tuple(ring), heights), (text, ring, tuple(heights))):
            self.check(value, True)

    def test_other_texts_and_rings(self):
        text, ring, heights = self.paper
        for value in [
            (text + ring, ring, heights), (text, ring * 2, heights), (text, ring * 200, heights),
            (text + ring * 200, ring * 3, heights), (text + ring[:1], ring[1:] + ring[:1], heights),
            ([("#0", "aa")] * 9 + text, ring, heights),
        ]:
            self.check(value, True)

    def test_a_ring_behind_the_text_without_tokens(self):
        # Nothing leads back to the first state, though all blanks would make no breaks there.
        chain, stock = read_chain("join /"), Stock(["#0", " "], longest=2)
        _, ring, heights = share_paper(chain, stock)
        for tokens in (ring, [(" ", "a")], [(" ", "aa")] * 3, [("#0", "a")]):
            self.assertIs(is_share_paper(chain, stock, ([], tokens, heights)), False)
            self.assertIs(is_share_paper(chain, stock, ((), tokens, [0] * len(heights))), False)
        self.assertIs(is_share_paper(chain, stock, ([("#0", "a")], [(" ", "a")], heights)), True)

    def test_heights_with_any_integers(self):
        text, ring, heights = self.paper
        for more in (1, -7, 10 ** 29, -10 ** 60):
            self.check((text, ring, [height + more for height in heights]), True)
        # Ahead of the first token a height may be greater by anything.
        self.check((text, ring, [heights[0] + 10 ** 40] + heights[1:]), True)
        self.check((text, ring, [heights[0] - 10 ** 40] + heights[1:]), False)
        self.check((text, ring, [0] * len(heights)), False)
        for place in range(1, len(heights)):
            for more in (9, -9):
                self.check((text, ring, heights[:place] + [heights[place] + more] + heights[place + 1:]), False)

    def test_wrong_tuples(self):
        text, ring, heights = self.paper
        for value in [
            list(self.paper), (text, ring), (text,), (), (text, ring, heights, heights), (text, ring, heights, None),
            (text, heights, ring), (ring, text, heights) if ring[0][0] == " " else (heights, text, ring), text,
            ((text, ring, heights),), {"text": text, "ring": ring, "heights": heights}, (heights, ring, text),
        ]:
            self.check(value, False)
        for value in ODD_VALUES + [0, "group 3", self.chain, self.stock]:
            self.check(value, False)

    def test_wrong_texts(self):
        text, ring, heights = self.paper
        for wrong in NO_TEXTS + [[], (), [("#1", "aa")], [("#0", "a")], [("#0", "aaa")], text + [("|0", "aa")],
                                 [list(token) for token in text]]:
            self.check((wrong, ring, heights), False)

    def test_wrong_rings(self):
        text, ring, heights = self.paper
        for wrong in ODD_VALUES + [
            0, "a", ring[:-1], ring + ring[:1], ring[1:], [list(token) for token in ring], [("#1", "aa")] * 3,
            [("#0", "aa")], ring + [("|0", "aa")], [(" ", "a")] * 3, [(" ", "aaa")] * 3, [(" ", "AA")] * 3,
            {token: 0 for token in ring}, ["#0aa"], [("#0",)], [("#0", "aa", "aa")], [(" ", 2)] * 3, [[" ", "aa"]],
            [ring], ring + [None], ring + [""], [(["#0"], "aa")], [(None, "aa")], [("#0", None)],
        ]:
            self.check((text, wrong, heights), False)

    def test_wrong_heights(self):
        text, ring, heights = self.paper
        for wrong in ODD_VALUES + [
            0, "a", heights[:-1], heights + [0], heights[1:], [str(height) for height in heights], [heights],
            heights[:-1] + [None], heights[:-1] + [[heights[-1]]], {height: 0 for height in heights},
            {place: height for place, height in enumerate(heights)}, [None] * len(heights), "a" * len(heights),
        ]:
            self.check((text, ring, wrong), False)

    def test_true_among_the_heights(self):
        text, ring, heights = self.paper
        for place, height in enumerate(heights):
            for equal in BOTH:
                moved = [other - height + equal for other in heights]
                self.check((text, ring, moved), True)
                self.check((text, ring, moved[:place] + [equal] + moved[place + 1:]), False)

    def test_a_ring_of_another_share(self):
        # The ring goes round, but with more lines than there must be.
        text, ring, heights = self.paper
        for wrong in ([("#0", "aa")] + ring[1:], ring + [("#0", "aa")], [("#0", "aa")]):
            self.check(([("#0", "aa")], wrong, heights), False)
        # The greatest share shows the least one only where they are equal.
        paper = share_paper(self.chain, self.stock, most=True)
        self.check(paper, False)
        self.check((text, ring, paper[2]), False)
        chain, stock = read_chain("group 1"), Stock(["#0", " "])
        for most in BOTH:
            paper = share_paper(chain, stock, most=most)
            self.assertEqual([is_share_paper(chain, stock, paper, most=other) for other in BOTH], [True, True])

    def test_papers_of_other_chains_and_stocks(self):
        for writing, stock, expected in [
            ("group 2", self.stock, False), ("group 4", self.stock, False), ("-", self.stock, False),
            ("group 3", Stock(["#0", " "], shortest=3), False), ("group 3", Stock(["#1", " "]), False),
            # The least machine has as many states there, and no token brings fewer breaks.
            ("group 3", Stock(["#0", " ", "|0"]), True),
        ]:
            self.assertIs(is_share_paper(read_chain(writing), stock, self.paper), expected)

    def test_long_papers(self):
        text, ring, heights = self.paper
        self.check((text + ring * 500, ring * 500, heights), True)
        self.check((text + ring * 500, ring * 500 + ring[:1], heights), False)
        self.check((text, ring, heights * 200), False)
        self.check((text, {place: token for place, token in enumerate(ring * 500)}, heights), False)


class WrongTest(unittest.TestCase):
    def test_wrong_arguments(self):
        good = {"chain": read_chain("wrap 3 same"), "stock": STOCK}
        wrong = {"chain": (InvalidChain, NO_CHAINS), "stock": (InvalidStock, NO_STOCKS)}
        for call in (widest, widest_paper, line_share, share_paper):
            check_wrong_arguments(self, call, good, wrong)
        for most in BOTH:
            check_wrong_arguments(self, line_share, {**good, "most": most}, wrong)
            check_wrong_arguments(self, share_paper, {**good, "most": most}, wrong)
            check_wrong_arguments(self, is_share_paper, {**good, "value": None, "most": most}, wrong)

    def test_arguments_by_position_and_by_name(self):
        chain = read_chain("wrap 3 same")
        for call in (widest, widest_paper, line_share, share_paper):
            self.assertEqual(call(chain, STOCK), call(stock=STOCK, chain=chain))
        paper = share_paper(chain, STOCK, most=True)
        self.assertIs(is_share_paper(value=paper, stock=STOCK, chain=chain, most=True), True)
        for call, arguments in [(line_share, (chain, STOCK, True)), (share_paper, (chain, STOCK, True)),
                                (is_share_paper, (chain, STOCK, paper, True))]:
            with self.assertRaises(TypeError):
                call(*arguments)

    def test_results_are_new(self):
        chain = read_chain("wrap 3 same")
        check_arguments(self, widest_paper, chain, STOCK)
        check_arguments(self, widest_paper, read_chain("join /"), STOCK)
        for most in BOTH:
            check_arguments(self, share_paper, chain, STOCK, most=most)
            check_arguments(self, is_share_paper, chain, STOCK, share_paper(chain, STOCK), most=most)


if __name__ == "__main__":
    unittest.main()
