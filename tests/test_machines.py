"""Points [61], [62] and [63], and the first guarantee of [9]: the machines."""

import itertools
import random
import unittest

from reflows.chains import Chain, read_chain
from reflows.errors import InvalidChain, InvalidState, InvalidStock, InvalidText, NoLetter, NotOver
from reflows.machines import Machine
from reflows.steps import Group, Wrap
from reflows.stocks import Stock
from reflows.words import all_marks
from tests.helper import (
    NO_TEXTS, ODD_VALUES, all_writings, check_new_list, check_new_text, check_raises, mixed_texts, plain_run,
)

# Chains with wrap, group and alone, and without them.
WRITINGS = [
    "-", "wrap 5 same", "wrap 4 1", "group 2", "group 3; hang 1", "alone 1", "alone 2; group 2", "wrap 4 same; wrap 3 0",
    "join |; wrap 4 same; turn / |", "join /; group 2; hang -1", "shift 1; align | 0", "turn | #; wrap 3 2",
    "hang 2; join |", "alone 0; join /", "wrap 1 3; alone 12", "turn |/ #; join |", "group 2; join /; group 3",
]

STOCKS = [
    Stock(["#0"], longest=1), Stock(["#0", "#2"], shortest=2, longest=3), Stock([" ", "#0"], longest=2),
    Stock([" ", "#1", "/2"], longest=2), Stock([" ", "#0", "#1", "|0"], shortest=1, longest=1),
    Stock([" ", "#0", "/1", "|2"], shortest=2, longest=3), Stock([" ", "/0", "#3"], shortest=30, longest=30),
]


def mixed_pairs(many):
    """Yield so many chains within the limits of [5], each with a stock within them, the same ones each time."""
    chooser = random.Random(many)
    turning = [text for text in all_writings() if text.split(" ")[0] in ("wrap", "group", "alone")]
    turning = [text for text in turning if text.split(" ")[0] == "group" or int(text.split(" ")[1]) <= 8]
    other = [text for text in all_writings() if text.split(" ")[0] not in ("wrap", "group", "alone")]
    for _ in range(many):
        steps = chooser.choices(turning, k=chooser.randint(0, 2)) + chooser.choices(other, k=chooser.randint(0, 2))
        chooser.shuffle(steps)
        marks = ["#" + chooser.choice("0123"), " "] + chooser.sample(all_marks(), 3)
        shortest = chooser.randint(1, 6)
        yield "; ".join(steps) or "-", Stock(marks, shortest=shortest, longest=shortest + chooser.randint(0, 4))


def letters_read(machine, state):
    """Return the letters that a machine reads in a state."""
    return [letter for letter in machine.letters() if state != 0 or letter[0][0] == "#"]


def reads_of(machine):
    """Return for each state and each letter that is read in it what comes of it."""
    return {(state, letter): machine.read(state, *letter)
            for state in range(len(machine)) for letter in letters_read(machine, state)}


def distances(machine):
    """Return for each state that is come to the number of the words of the shortest texts that lead to it."""
    found = {0: 0}
    waiting = [0]
    for state in waiting:
        for letter in letters_read(machine, state):
            reached = machine.read(state, *letter)[1]
            if reached not in found:
                found[reached] = found[state] + 1
                waiting.append(reached)
    return found


def unlike_pairs(machine):
    """Return the pairs of states but 0 that some row of letters tells apart, found by going back from unlike marks."""
    reads = reads_of(machine)
    pairs = list(itertools.combinations(range(1, len(machine)), 2))
    unlike = set()
    found = [None]
    while found:
        found = []
        for one, other in [pair for pair in pairs if pair not in unlike]:
            for letter in machine.letters():
                made, reached = reads[one, letter]
                also, there = reads[other, letter]
                if made != also or (min(reached, there), max(reached, there)) in unlike:
                    found.append((one, other))
                    break
        unlike.update(found)
    return unlike


class ExampleTest(unittest.TestCase):
    stock = Stock(["#0", " "], shortest=2, longest=3)

    def test_reading(self):
        machine = Machine(read_chain("wrap 5 same"), self.stock)
        found = [len(machine), machine.letters(), machine.read(0, "#0", 2), machine.read(1, " ", 2),
                 machine.read(1, " ", 3)]
        letters = [(" ", 2), (" ", 3), ("#0", 2), ("#0", 3)]
        self.assertEqual(found, [3, letters, ("#0", 1), (" ", 2), ("/0", 2)])
        found = [machine.read(2, " ", 2), Machine(read_chain("wrap 4 same"), self.stock) == machine]
        self.assertEqual(found, [("/0", 1), False])

    def test_a_letter_that_is_not_read(self):
        machine = Machine(read_chain("wrap 5 same"), self.stock)
        with self.assertRaises(NoLetter) as caught:
            machine.read(0, " ", 2)
        self.assertEqual(caught.exception.value, (" ", 2))


class SameTest(unittest.TestCase):
    def check_same(self, chain, machine):
        """Check for all texts, however long, that a machine does what a chain does."""
        known = {(0, chain.begin())}
        waiting = [(0, chain.begin(), True)]
        while waiting:
            state, held, first = waiting.pop()
            for letter in letters_read(machine, 0 if first else 1):
                made, reached = machine.read(state, *letter)
                expected, next_held = chain.read(held, *letter)
                self.assertEqual(made, expected)
                self.assertNotEqual(reached, 0)
                if (reached, next_held) not in known:
                    known.add((reached, next_held))
                    waiting.append((reached, next_held, False))

    def test_all_texts_of_few_words(self):
        for writing in WRITINGS:
            for stock in STOCKS:
                machine = Machine(read_chain(writing), stock)
                for many in range(4):
                    for text in stock.texts(many):
                        made = plain_run(writing, text)
                        self.assertEqual(machine.run(text), made, (writing, str(stock)))
                        self.assertEqual(read_chain(writing)(text), made)

    def test_all_texts(self):
        for writing in WRITINGS:
            for stock in STOCKS:
                chain = read_chain(writing)
                self.check_same(chain, Machine(chain, stock))
        for writing, stock in mixed_pairs(60):
            chain = read_chain(writing)
            self.check_same(chain, Machine(chain, stock))

    def test_long_texts(self):
        stock = Stock([" ", "#0", "#1", "|2", "/1"], longest=5)
        for writing in WRITINGS:
            machine = Machine(read_chain(writing), stock)
            for text in mixed_texts(30, 60, (1, 2, 3, 4, 5)):
                over = [(mark, word) for mark, word in text if mark in stock.marks()]
                over = [("#1", "ab")] + over
                self.assertEqual(machine.run(over), plain_run(writing, over))

    def test_run_reads_letter_by_letter(self):
        machine = Machine(read_chain("wrap 5 same; hang 1"), STOCKS[5])
        for number in range(0, STOCKS[5].amount(5), 97):
            text = STOCKS[5].text_at(5, number)
            state = 0
            made = []
            for mark, word in text:
                turned, state = machine.read(state, mark, len(word))
                made.append((turned, word))
            self.assertEqual(machine.run(text), made)


class LeastTest(unittest.TestCase):
    def machines(self):
        """Yield machines over small stocks, and some over stocks as large as the limits allow."""
        for writing in WRITINGS:
            for stock in STOCKS:
                yield Machine(read_chain(writing), stock)
        for writing, stock in mixed_pairs(40):
            machine = Machine(read_chain(writing), stock)
            if len(machine) < 40:
                yield machine

    def test_all_states_are_told_apart(self):
        for machine in self.machines():
            pairs = set(itertools.combinations(range(1, len(machine)), 2))
            self.assertEqual(unlike_pairs(machine), pairs)

    def test_all_states_are_come_to_but_0_is_not_come_back_to(self):
        for machine in self.machines():
            self.assertEqual(sorted(distances(machine)), list(range(len(machine))))
            self.assertNotIn(0, [reached for _, reached in reads_of(machine).values()])

    def test_states_are_numbered_as_they_are_come_to(self):
        for machine in self.machines():
            known = 0
            for state in range(len(machine)):
                for letter in letters_read(machine, state):
                    reached = machine.read(state, *letter)[1]
                    self.assertLessEqual(reached, known + 1)
                    known = max(known, reached)
            self.assertEqual(known, len(machine) - 1)

    def test_numbers_of_states(self):
        blank = Stock([" ", "#0"], longest=1)
        expected = {
            "-": 2, "join |/": 2, "group 1": 2, "group 2": 3, "group 9": 10, "wrap 1 same": 2, "wrap 2 same": 2,
            "wrap 3 same": 3, "wrap 12 same": 7, "alone 0": 2, "alone 1": 2, "hang 3": 2, "group 2; group 3": 3,
            "group 2; join /; group 3": 4, "join /; group 3; join /": 2,
        }
        for writing, many in expected.items():
            self.assertEqual(len(Machine(read_chain(writing), blank)), many, writing)
        # Indentations need states of their own where a soft break can come that shows them.
        self.assertEqual(len(Machine(read_chain("group 1"), Stock([" ", "#0", "#1", "#2", "#3"], longest=1))), 5)
        self.assertEqual(len(Machine(read_chain("hang 1"), Stock(["/0", "#0", "#1", "#2", "#3"], longest=1))), 4)
        self.assertEqual(len(Machine(read_chain("alone 2"), Stock([" ", "#0"], longest=4))), 3)

    def test_state_0_stands_alone_even_if_it_reads_all_letters(self):
        for writing in WRITINGS:
            stock = Stock(["#0", "#1"], longest=2)
            machine = Machine(read_chain(writing), stock)
            self.assertEqual([len(machine), stock.letters()], [2, stock.first_letters()])
            self.assertEqual([machine.read(0, *letter)[1] for letter in stock.letters()], [1, 1, 1, 1])
            self.assertEqual([machine.read(1, *letter)[1] for letter in stock.letters()], [1, 1, 1, 1])

    def test_the_order_of_a_machine_with_several_states(self):
        machine = Machine(read_chain("group 2"), Stock([" ", "#0", "#1"], longest=1))
        reads = {(state, letter[0]): made for (state, letter), made in reads_of(machine).items()}
        self.assertEqual(reads, {
            (0, "#0"): ("#0", 1), (0, "#1"): ("#1", 2),
            (1, " "): (" ", 3), (1, "#0"): ("#0", 1), (1, "#1"): ("#1", 2),
            (2, " "): (" ", 4), (2, "#0"): ("#0", 1), (2, "#1"): ("#1", 2),
            (3, " "): ("/0", 1), (3, "#0"): ("#0", 1), (3, "#1"): ("#1", 2),
            (4, " "): ("/1", 2), (4, "#0"): ("#0", 1), (4, "#1"): ("#1", 2),
        })

    def test_a_chain_with_many_states(self):
        machine = Machine(read_chain("group 9; join |; align # 1; group 9"),
                          Stock([" ", "#1", "/3", "|0", "|2"], shortest=2, longest=6))
        self.assertEqual(sorted(distances(machine)), list(range(len(machine))))
        self.assertEqual(len(machine), 667)


class ShortestTest(unittest.TestCase):
    def test_fewest_words(self):
        for writing, stock in list(itertools.product(WRITINGS, STOCKS)) + list(mixed_pairs(40)):
            machine = Machine(read_chain(writing), stock)
            expected = distances(machine)
            for state in range(len(machine)):
                text = machine.shortest(state)
                self.assertEqual(len(text), expected[state])
                self.assertTrue(stock.holds(text))
                self.assertEqual([word.strip("a") for _, word in text], [""] * len(text))
                self.assertEqual(self.state_behind(machine, text), state)

    def state_behind(self, machine, text):
        """Return the state of a machine behind a text."""
        state = 0
        for mark, word in text:
            state = machine.read(state, mark, len(word))[1]
        return state

    def test_arguments_and_new_lists(self):
        machine = Machine(read_chain("group 3"), Stock([" ", "#0"], shortest=2, longest=2))
        self.assertEqual(machine.shortest(0), [])
        self.assertEqual(machine.shortest(state=3), [("#0", "aa"), (" ", "aa"), (" ", "aa")])
        check_new_list(self, machine.shortest, 0)
        check_new_list(self, machine.shortest, 3)

    def test_invalid_states(self):
        machine = Machine(read_chain("group 3"), Stock([" ", "#0"]))
        for state in ODD_VALUES + [-1, 4, 5, 10 ** 29, -10 ** 29, "0", "", [0], (0,), {0: 0}, machine]:
            check_raises(self, InvalidState, "value", state, machine.shortest, state)
            check_raises(self, InvalidState, "value", state, machine.shortest, state=state)


class ReadTest(unittest.TestCase):
    machine = Machine(read_chain("group 3"), Stock([" ", "#0", "#2"], shortest=1, longest=2))

    def test_arguments(self):
        self.assertEqual(self.machine.read(length=1, mark="#0", state=0), ("#0", 1))
        self.assertIs(self.machine.read(0, "#0", 1).__class__, tuple)

    def test_invalid_states(self):
        for state in ODD_VALUES + [-1, 7, 8, 10 ** 29, "0", [0], (0,), {0: 0}, self.machine]:
            check_raises(self, InvalidState, "value", state, self.machine.read, state, "#0", 1)
            check_raises(self, InvalidState, "value", state, self.machine.read, state, ["#0"], ["1"])
        self.assertEqual(len(self.machine), 7)

    def check_no_letter(self, state, mark, length):
        with self.assertRaises(NoLetter) as caught:
            self.machine.read(state, mark, length)
        self.assertIs(caught.exception.__class__, NoLetter)
        self.assertIs(caught.exception.value.__class__, tuple)
        self.assertEqual(len(caught.exception.value), 2)
        self.assertIs(caught.exception.value[0], mark)
        self.assertIs(caught.exception.value[1], length)

    def test_no_letters(self):
        for state in (0, 1, 6):
            for mark in ODD_VALUES + ["#1", "|0", "/0", "", "#", "_", "  ", ["#0"], ("#0",), 0, self.machine]:
                self.check_no_letter(state, mark, 1)
            for length in ODD_VALUES + [0, 3, -1, 30, 10 ** 29, "1", [1], (1,), self.machine]:
                self.check_no_letter(state, "#0", length)
                self.check_no_letter(state, " ", length)

    def test_marks_of_other_kinds_are_not_read_in_state_0(self):
        self.check_no_letter(0, " ", 1)
        self.check_no_letter(0, " ", 2)
        self.assertEqual(self.machine.read(1, " ", 1)[0], " ")
        machine = Machine(Chain(), Stock(all_marks()[:1] + ["#3", "|1", "/1"]))
        for mark in (" ", "|1", "/1"):
            with self.assertRaises(NoLetter) as caught:
                machine.read(0, mark, 4)
            self.assertEqual(caught.exception.value, (mark, 4))
            self.assertEqual(machine.read(1, mark, 4), (mark, 1))


class RunTest(unittest.TestCase):
    machine = Machine(read_chain("wrap 5 same"), Stock([" ", "#0"], shortest=2, longest=3))

    def test_the_text_without_tokens(self):
        self.assertEqual([self.machine.run([]), self.machine.run(())], [[], []])

    def test_new_lists(self):
        text = [("#0", "to"), (" ", "be"), (" ", "not")]
        self.assertEqual(self.machine.run(text=text), [("#0", "to"), (" ", "be"), ("/0", "not")])
        check_new_text(self, self.machine.run, text)
        check_new_text(self, self.machine.run, [])

    def test_no_texts(self):
        for value in NO_TEXTS:
            check_raises(self, InvalidText, "value", value, self.machine.run, value)
            check_raises(self, InvalidText, "value", value, self.machine.run, text=value)

    def test_texts_that_are_not_over_the_stock(self):
        for text in ([("#1", "aa")], [("#0", "a")], [("#0", "aaaa")], (("#0", "aa"), ("/0", "aa"))):
            check_raises(self, NotOver, "value", text, self.machine.run, text)
            check_raises(self, NotOver, "value", text, self.machine.run, text=text)


class MakingTest(unittest.TestCase):
    def test_invalid_chains(self):
        for value in ODD_VALUES + [0, "-", "wrap 5 same", [Wrap(5)], (Wrap(5),), Wrap(5), Stock(["#0"])]:
            check_raises(self, InvalidChain, "value", value, Machine, value, Stock(["#0"]))
            check_raises(self, InvalidChain, "value", value, Machine, value, None)
            check_raises(self, InvalidChain, "value", value, Machine, stock="x", chain=value)

    def test_invalid_stocks(self):
        for value in ODD_VALUES + [0, "#0 : 1 4", ["#0"], ("#0",), Chain(), Group(1), ReadTest.machine]:
            check_raises(self, InvalidStock, "value", value, Machine, Chain(), value)
            check_raises(self, InvalidStock, "value", value, Machine, stock=value, chain=Chain())

    def test_letters(self):
        for stock in STOCKS:
            machine = Machine(read_chain("wrap 5 same"), stock)
            self.assertEqual(machine.letters(), stock.letters())
            check_new_list(self, machine.letters)
        stock = Stock([" ", "#0"])
        machine = Machine(Chain([Group(2)]), stock)
        machine.letters().clear()
        stock.letters().clear()
        self.assertEqual(len(machine.letters()), 8)

    def test_equal_machines(self):
        pairs = list(itertools.product(WRITINGS, STOCKS))
        machines = [Machine(read_chain(writing), stock) for writing, stock in pairs]
        reads = [(len(machine), machine.letters(), reads_of(machine)) for machine in machines]
        for one in range(len(machines)):
            for other in range(len(machines)):
                self.assertIs(machines[one] == machines[other], reads[one] == reads[other])
                self.assertIs(machines[one] != machines[other], reads[one] != reads[other])

    def test_chains_that_do_the_same_have_equal_machines(self):
        stock = Stock([" ", "#0", "/0"], longest=3)
        one = Machine(read_chain("wrap 6 same; wrap 4 same"), stock)
        self.assertEqual(Machine(read_chain("join /; wrap 5 same; wrap 6 same; turn / |"), stock),
                         Machine(read_chain("join /; wrap 5 same; turn / |"), stock))
        self.assertNotEqual(one, Machine(read_chain("wrap 4 same"), stock))
        self.assertEqual(Machine(read_chain("alone 3"), stock), Machine(Chain(), stock))
        self.assertNotEqual(Machine(read_chain("alone 2"), stock), Machine(Chain(), stock))

    def test_machines_of_unlike_letters_are_unlike(self):
        self.assertNotEqual(Machine(Chain(), Stock(["#0"])), Machine(Chain(), Stock(["#0"], longest=3)))
        self.assertNotEqual(Machine(Chain(), Stock(["#0"])), Machine(Chain(), Stock(["#1"])))

    def test_machines_equal_no_other_values(self):
        for value in [None, 2, "-", [], Chain(), Stock(["#0"]), Group(1)]:
            machine = Machine(Chain(), Stock(["#0"]))
            self.assertIs(machine == value, False)
            self.assertIs(machine != value, True)
        self.assertIsInstance(repr(ReadTest.machine), str)


if __name__ == "__main__":
    unittest.main()
