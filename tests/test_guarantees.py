"""Point [9]: the guarantees, also for texts of many words, and [3]: the words that are longer than the reach."""

import itertools
import random
import unittest

from reflows.backs import confused, never_told, origin_text, origins, restores, takes_back
from reflows.chains import Chain, read_chain
from reflows.comparisons import alike
from reflows.machines import Machine
from reflows.rates import line_share, share_paper, widest, widest_paper
from reflows.ripples import CHANGES, ripple, ripple_paper
from reflows.sayings import comes, pattern_places
from reflows.stocks import Stock
from reflows.texts import lengths_of, marks_of, unlike_marks, widths
from reflows.toldback import Sources
from reflows.words import all_marks
from tests.helper import mixed_texts
from tests.plain import LARGE_STOCK, LARGE_WRITINGS, STOCKS, chains_of, done, few_texts, small_cases, some_texts

LONG = 60


def paragraphs_of(text):
    """Return the paragraphs of a text: each begins with a break of the kind #."""
    found = []
    for token in text:
        if token[0][0] == "#":
            found.append([])
        found[-1].append(token)
    return found


def breaks_in(text):
    """Return the number of the breaks of a text."""
    return len([mark for mark in marks_of(text) if mark != " "])


class MachineTest(unittest.TestCase):
    def test_a_chain_is_one_machine(self):
        for writing, stock in small_cases(60):
            machine = Machine(read_chain(writing), stock)
            for text in some_texts(stock, 3, LONG):
                self.assertEqual(machine.run(text), done([writing], text))

    def test_alike_exactly_if_the_least_machines_are_the_same(self):
        found = []
        for one, other, stock in small_cases(150, 2):
            chains = chains_of([one, other])
            told = alike(*chains, stock)
            found.append(told is None)
            self.assertIs(Machine(chains[0], stock) == Machine(chains[1], stock), told is None)
            if told is None:
                for text in some_texts(stock, 3, LONG):
                    self.assertEqual(done([one], text), done([other], text))
            else:
                self.assertNotEqual(done([one], told), done([other], told))
                for text in few_texts(stock):
                    self.assertTrue(len(text) >= len(told) or done([one], text) == done([other], text))
        self.assertGreater(min(found.count(True), found.count(False)), 20)

    def test_words_that_are_longer_than_the_reach_act_alike(self):
        for writing in ("wrap 4 same; alone 3", "alone 5; hang 1", "join /; group 2", "wrap 12 2", "alone 12", "-"):
            chain = read_chain(writing)
            for text in mixed_texts(20, 12, (1, 2, 3)):
                for length in (chain.reach + 1, chain.reach + 2, 30):
                    texts = [[(mark, "a" * (at + 1 if len(word) == 3 else len(word))) for mark, word in text]
                             for at in (chain.reach, length - 1)]
                    self.assertEqual(marks_of(chain(texts[0])), marks_of(chain(texts[1])))
                    self.assertEqual(marks_of(done([writing], texts[1])), marks_of(chain(texts[1])))

    def test_what_is_shown_of_marks_holds_for_longer_words(self):
        for writing in ("wrap 2 same", "alone 2; wrap 3 same", "group 2; join |"):
            chain = read_chain(writing)
            stocks = [Stock(["#0", " ", "|0"], longest=chain.reach + 1 + more) for more in (0, 2)]
            for other in ("wrap 2 same", "alone 2; wrap 3 same", "join |; group 2", "turn | /"):
                told = [alike(chain, read_chain(other), stock) for stock in stocks]
                if read_chain(other).reach <= chain.reach:
                    self.assertEqual(told[0] is None, told[1] is None)
            self.assertEqual(*[never_told(chain, stock) for stock in stocks])
            self.assertEqual(*[origins(chain, stock) for stock in stocks])
            self.assertEqual(*[line_share(chain, stock) for stock in stocks])
            self.assertEqual(*[ripple(chain, stock, "mark") for stock in stocks])


class BackTest(unittest.TestCase):
    def test_what_takes_back_takes_back_long_texts(self):
        found = []
        cases = [("shift -1", "shift 1"), ("turn | /", "turn / |"), ("align / 0", "align / 2"), ("-", "join |"),
                 ("turn / |; shift -2", "shift 2; turn | /")]
        for (back, writing), stock in itertools.product(cases, STOCKS):
            told = takes_back(read_chain(back), read_chain(writing), stock)
            found.append(told is None)
            for text in some_texts(stock, 3, LONG) if told is None else []:
                self.assertEqual(done([writing, back], text), text)
            if told is not None:
                self.assertNotEqual(done([writing, back], told), told)
        self.assertGreater(min(found.count(True), found.count(False)), 10)

    def test_what_restores_restores_long_texts(self):
        found = []
        for back, writing, stock in small_cases(80, 2):
            told = restores(read_chain(back), read_chain(writing), stock)
            found.append(told is None)
            for text in some_texts(stock, 3, LONG) if told is None else []:
                self.assertEqual(done([writing, back, writing], text), done([writing], text))
        self.assertGreater(min(found.count(True), found.count(False)), 20)

    def test_marks_that_are_never_told_apart(self):
        chooser = random.Random(1)
        exchanged = 0
        for writing, stock in small_cases(80):
            classes = [row for row in never_told(read_chain(writing), stock) if len(row) > 1]
            for text in some_texts(stock, 3, LONG) if classes else []:
                for row in classes:
                    places = [place for place, (mark, _) in enumerate(text) if mark in row]
                    for place in places[:20]:
                        other = list(text)
                        other[place] = (chooser.choice(row), text[place][1])
                        if place > 0 or other[0][0][0] == "#":
                            exchanged += 1
                            self.assertEqual(done([writing], other), done([writing], text))
        self.assertGreater(exchanged, 300)

    def test_marks_of_which_made_marks_come(self):
        for writing, stock in small_cases(60):
            told = origins(read_chain(writing), stock)
            for text in some_texts(stock, 3, LONG):
                for (made, _), (mark, _) in zip(done([writing], text), text):
                    self.assertIn(mark, told[made])
            for made, marks in told.items():
                for mark in marks:
                    shown = origin_text(read_chain(writing), stock, made, mark)
                    self.assertEqual([shown[-1][0], done([writing], shown)[-1][0]], [mark, made])

    def test_confused_texts(self):
        for writing, stock in small_cases(80):
            told = confused(read_chain(writing), stock)
            if told is not None:
                one, other = told
                self.assertEqual(lengths_of(one), lengths_of(other))
                self.assertNotEqual(marks_of(one), marks_of(other))
                self.assertEqual(marks_of(done([writing], one)), marks_of(done([writing], other)))
                continue
            # Each text is the only source of what comes of it.
            for text in some_texts(stock, 2, LONG):
                sources = Sources(stock, [(read_chain(writing), done([writing], text))])
                self.assertEqual(list(sources.each()), [text])


class ParagraphTest(unittest.TestCase):
    def check(self, writing, text):
        apart = [token for part in paragraphs_of(text) for token in done([writing], part)]
        self.assertEqual(done([writing], text), apart)
        chain = read_chain(writing)
        self.assertEqual(chain(text), [token for part in paragraphs_of(text) for token in chain(part)])

    def test_each_paragraph_comes_out_as_if_it_were_alone(self):
        for writing, stock in small_cases(80):
            for text in some_texts(stock, 4, LONG):
                self.check(writing, text)
        for text in mixed_texts(30, 40):
            self.assertGreater(len(paragraphs_of(text)), 1)
            for writing in LARGE_WRITINGS + ["turn | #; hang 1; group 2", "hang 2; wrap 9 same; turn / #; alone 3"]:
                self.check(writing, text)

    def test_the_state_behind_the_break_of_a_paragraph(self):
        # Nothing that was read ahead of it is left.
        for writing, stock in small_cases(60):
            machine = Machine(read_chain(writing), stock)
            for mark, length in stock.first_letters():
                read = [machine.read(state, mark, length) for state in range(len(machine))]
                self.assertEqual(read, read[:1] * len(machine))


class RippleTest(unittest.TestCase):
    def changed(self, chooser, text, stock, change):
        """Return a change of a text, and the places of what is behind it in both."""
        at = chooser.randrange(1 if change == "token" else 0, len(text))
        mark, word = text[at]
        letters = [letter for letter in stock.letters() if at > 0 or letter[0][0] == "#"]
        if change == "token":
            mark, length = chooser.choice(letters)
            return text[:at] + [(mark, "a" * length)] + text[at:], at, at + 1
        if change == "word":
            token = (mark, "a" * chooser.choice(stock.lengths()))
        else:
            token = (chooser.choice(letters)[0], word)
        return text[:at] + [token] + text[at + 1:], at + 1, at + 1

    def test_no_more_marks_come_out_otherwise_than_is_told(self):
        chooser = random.Random(2)
        for writing, stock in small_cases(60):
            for change in CHANGES:
                told = ripple(read_chain(writing), stock, change)
                for text in some_texts(stock, 8, LONG) if told is not None else []:
                    other, one_at, other_at = self.changed(chooser, text, stock, change)
                    pairs = zip(done([writing], text)[one_at:], done([writing], other)[other_at:])
                    self.assertLessEqual(len([one for one, there in pairs if one[0] != there[0]]), told)

    def test_what_is_told_is_reached_or_goes_on_for_ever(self):
        seen = []
        for writing, stock in small_cases(60):
            for change in CHANGES:
                chain = read_chain(writing)
                told, paper = ripple(chain, stock, change), ripple_paper(chain, stock, change)
                seen.append(told if told is None else min(told, 2))
                if told == 0:
                    self.assertIs(paper, None)
                    continue
                one, other, ring = paper
                marks = [[marks_of(done([writing], text + ring * many)) for text in (one, other)] for many in (3, 4)]
                if told is None:
                    size = len(ring)
                    self.assertNotEqual(marks[1][0][-size:], marks[1][1][-size:])
                else:
                    least = min(len(one), len(other))
                    tails = [row[len(row) - least + 1:] for row in marks[0]]
                    self.assertLessEqual(told, least)
                    self.assertGreaterEqual(len([1 for left, right in zip(*tails) if left != right]), told)
        self.assertEqual(set(seen), {None, 0, 1, 2})


class LineTest(unittest.TestCase):
    def test_no_line_gets_wider_than_is_told(self):
        seen = []
        for writing, stock in small_cases(80):
            chain = read_chain(writing)
            told, (text, ring) = widest(chain, stock), widest_paper(chain, stock)
            seen.append(told is None)
            for long in some_texts(stock, 4, LONG) if told is not None else []:
                self.assertLessEqual(max(widths(done([writing], long))), told)
            if told is None:
                made = done([writing], text + ring * 30)
                self.assertEqual(marks_of(made)[len(text):], [" "] * (30 * len(ring)))
            else:
                self.assertEqual(widths(done([writing], text))[-1], told)
        self.assertGreater(min(seen.count(True), seen.count(False)), 10)

    def test_no_fewer_and_no_more_breaks_come_than_the_told_shares(self):
        for writing, stock in small_cases(60):
            chain = read_chain(writing)
            for most in (False, True):
                lines, words = line_share(chain, stock, most=most)
                text, ring, heights = share_paper(chain, stock, most=most)
                slack = max(heights) - min(heights)
                for long in some_texts(stock, 4, LONG) + [ring_text(text, ring, 20)]:
                    gained = words * breaks_in(done([writing], long)) - lines * len(long)
                    self.assertTrue(gained <= slack if most else gained >= -slack)
                # A row of words that is repeated comes to the share.
                counts = [breaks_in(done([writing], ring_text(text, ring, many))) for many in (0, words, 3 * words)]
                self.assertEqual(counts[1] - counts[0], lines * len(ring))
                self.assertEqual(counts[2] - counts[0], 3 * lines * len(ring))


def ring_text(text, ring, many):
    """Return a text with a ring that is appended so many times."""
    return list(text) + list(ring) * many


class RowTest(unittest.TestCase):
    def test_what_never_comes_never_comes(self):
        chooser = random.Random(4)
        seen = []
        for writing, stock in small_cases(120):
            many = chooser.choice([1, 2, 2, 3])
            pattern = [(chooser.sample(all_marks(), 6), 1, chooser.randint(1, 4)) for _ in range(many)]
            told = comes(pattern, read_chain(writing), stock)
            seen.append(told is None)
            if told is None:
                for text in some_texts(stock, 4, LONG):
                    self.assertEqual(list(pattern_places(done([writing], text), pattern)), [])
            else:
                self.assertNotEqual(list(pattern_places(done([writing], told), pattern)), [])
        self.assertGreater(min(seen.count(True), seen.count(False)), 20)


class LongTextTest(unittest.TestCase):
    def test_texts_of_three_hundred_words(self):
        for writing in LARGE_WRITINGS:
            chain = read_chain(writing)
            machine = Machine(chain, LARGE_STOCK)
            for text in some_texts(LARGE_STOCK, 2, 300):
                made = done([writing], text)
                self.assertEqual([chain(text), machine.run(text)], [made, made])
                self.assertEqual(len(unlike_marks(text, made)) == 0, text == made)

    def test_the_words_and_their_number_stay(self):
        for writing, stock in small_cases(40):
            for text in some_texts(stock, 2, LONG):
                chain = read_chain(writing)
                made = chain(text)
                self.assertEqual([word for _, word in made], [word for _, word in text])
                self.assertEqual(made[0][0][0], "#")
        self.assertEqual(Chain()([("#0", "a")]), [("#0", "a")])


if __name__ == "__main__":
    unittest.main()
