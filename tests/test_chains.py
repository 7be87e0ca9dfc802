"""Points [41], [42], [43] and [44]: the chains."""

import operator
import random
import unittest

from reflows.chains import Chain, read_chain
from reflows.errors import (
    InvalidChain, InvalidInteger, InvalidMark, InvalidState, InvalidStep, InvalidText, NoStep, TooMany,
)
from reflows.steps import Align, Alone, Group, Hang, Join, Shift, Turn, Wrap, is_step, read_step
from reflows.stocks import Stock
from reflows.words import all_marks
from tests.helper import (
    NO_TEXTS, NOTE, ODD_VALUES, all_writings, check_new_list, check_new_text, check_raises, long_text, mixed_texts,
    plain_run, read_through, small_texts, states_of,
)

WRITINGS = [
    "-", "group 2", "shift 1; wrap 8 same; join |", "join /; wrap 5 same; wrap 6 same; turn / |", "wrap 6 3; hang 1",
    "alone 2; group 3; hang -1; align #/ 2", "turn |/ #; shift 3; alone 0; join |/", "wrap 12 same; group 9; shift -3",
    "hang 3; wrap 7 same; hang -3; group 1", "align #|/ 0; align | 3; wrap 4 1; alone 12",
]


def mixed_writings(many):
    """Yield so many writings of chains of one to four steps of all kinds, the same ones each time."""
    chooser = random.Random(many)
    by_name = {}
    for writing in all_writings():
        by_name.setdefault(writing.split(" ")[0], []).append(writing)
    for _ in range(many):
        names = chooser.choices(list(by_name), k=chooser.randint(1, 4))
        yield "; ".join([chooser.choice(by_name[name]) for name in names])


class ExampleTest(unittest.TestCase):
    def test_chains(self):
        chain = read_chain("shift 1; wrap 8 same; join |")
        found = [len(chain), chain.reach, str(chain[1]), str(chain.without(0)),
                 Chain([Shift(1), Wrap(8)]) + Chain([Join("|")]) == chain]
        self.assertEqual(found, [3, 8, "wrap 8 same", "wrap 8 same; join |", True])
        made = chain([("#0", "aaa"), (" ", "bb"), (" ", "cc"), ("|0", "d")])
        self.assertEqual(made, [("#1", "aaa"), (" ", "bb"), ("/1", "cc"), (" ", "d")])
        mark, state = chain.read(chain.begin(), "#0", 3)
        self.assertEqual([mark, chain.read(state, " ", 5)[0], Chain()([]), str(Chain())], ["#1", "/1", [], "-"])


class StepsTest(unittest.TestCase):
    steps = [Wrap(5), Shift(-1), Wrap(5), Hang(2)]

    def test_chains_of_none_to_four_steps(self):
        for many in range(5):
            for given in (self.steps[:many], tuple(self.steps[:many])):
                chain = Chain(given)
                self.assertEqual(len(chain), many)
                self.assertEqual(chain.steps(), self.steps[:many])
                self.assertEqual(list(chain), self.steps[:many])
                self.assertEqual([chain[index] for index in range(many)], self.steps[:many])
                self.assertEqual([str(step) for step in chain], [str(step) for step in self.steps[:many]])
        self.assertEqual(Chain(), Chain([]))
        self.assertEqual(Chain(steps=[Group(1)]).steps(), [Group(1)])

    def test_no_lists(self):
        for value in [None, True, False, 0, 7, "", "-", "group 1", {}, {"a": 1}, Group(1), Chain(), Chain([Group(1)])]:
            check_raises(self, InvalidChain, "value", value, Chain, value)
            check_raises(self, InvalidChain, "value", value, Chain, steps=value)

    def test_items_that_are_no_steps(self):
        for item in ODD_VALUES + [0, "group 1", "", [Group(1)], (Group(1),), Chain(), Chain([Group(1)])]:
            check_raises(self, InvalidStep, "value", item, Chain, [item])
            check_raises(self, InvalidStep, "value", item, Chain, (Group(1), item, None))
            check_raises(self, InvalidStep, "value", item, Chain, [Group(1)] * 6 + [item])

    def test_too_many_steps(self):
        for many in (5, 6, 300):
            for given in ([Group(1)] * many, (Shift(1),) * many):
                with self.assertRaises(TooMany) as caught:
                    Chain(given)
                self.assertEqual(caught.exception.count, many)
                self.assertIs(caught.exception.count.__class__, int)

    def test_the_list_that_was_handed_in_may_be_changed(self):
        given = [Wrap(5), Join("|")]
        chain = Chain(given)
        given.append(Group(1))
        given[0] = Shift(1)
        self.assertEqual(str(chain), "wrap 5 same; join |")
        self.assertEqual(chain(NOTE), plain_run("wrap 5 same; join |", NOTE))

    def test_the_list_that_is_returned_is_a_new_one(self):
        chain = Chain(self.steps)
        chain.steps().clear()
        check_new_list(self, chain.steps)
        check_new_list(self, Chain().steps)
        self.assertEqual(chain.steps(), self.steps)
        self.assertEqual(str(chain), "wrap 5 same; shift -1; wrap 5 same; hang 2")

    def test_no_step_at_an_index(self):
        for chain in (Chain(), Chain(self.steps[:1]), Chain(self.steps)):
            wrong = ODD_VALUES + [-1, -2, len(chain), 4, 5, 10 ** 29, -10 ** 29, "0", "", [0], (0,), {0: 0}, Group(1)]
            for index in wrong:
                check_raises(self, NoStep, "index", index, operator.getitem, chain, index)
                check_raises(self, NoStep, "index", index, chain.without, index)
        cut = slice(0, 1)
        check_raises(self, NoStep, "index", cut, operator.getitem, Chain(self.steps), cut)

    def test_iterating(self):
        chain = Chain([Wrap(5), Group(2), Shift(1)])
        self.assertEqual([str(one) + str(other) for one in chain for other in chain][:2],
                         ["wrap 5 samewrap 5 same", "wrap 5 samegroup 2"])
        one, other, last = chain
        self.assertEqual([one, other, last], chain.steps())
        self.assertEqual(list(iter(Chain())), [])

    def test_equal_chains(self):
        chains = [read_chain(writing) for writing in WRITINGS + ["group 2; shift 1", "shift 1; group 2"]]
        for one in chains:
            for other in chains:
                self.assertIs(one == other, str(one) == str(other))
                self.assertIs(one != other, str(one) != str(other))
        self.assertIs(Chain([Wrap(4)]) == Chain((Wrap(4, "same"),)), True)
        self.assertIs(Chain([Wrap(4)]) == Chain([Wrap(4), Wrap(4)]), False)

    def test_chains_equal_no_other_values(self):
        for value in ["-", None, [], (), 0, False, Group(1), [Group(1)], (Group(1),), "group 1", Stock(["#0"])]:
            for chain in (Chain(), Chain([Group(1)])):
                self.assertIs(chain == value, False)
                self.assertIs(chain != value, True)

    def test_reach(self):
        expected = {
            "-": 0, "group 9": 0, "shift 3; hang 3": 0, "wrap 8 same": 8, "alone 12": 12, "alone 0": 0,
            "wrap 3 0; alone 5": 5, "alone 5; wrap 3 0": 5, "wrap 7 3; join |; alone 7; align #|/ 3": 7,
            "join |/; turn | #; wrap 1 same; group 9": 1,
        }
        for writing, reach in expected.items():
            self.assertEqual(read_chain(writing).reach, reach)

    def test_words_longer_than_the_reach_act_alike(self):
        for writing in ("wrap 3 same; alone 5", "alone 2; wrap 4 1; hang 1", "group 2; shift 1", "-"):
            chain = read_chain(writing)
            for state in states_of(chain, (1, 2, 6, 30)):
                for mark in all_marks():
                    found = [chain.read(state, mark, length) for length in range(chain.reach + 1, 31)]
                    self.assertEqual(found, [found[0]] * len(found))


class RunTest(unittest.TestCase):
    def test_all_small_texts(self):
        for writing in WRITINGS:
            chain = read_chain(writing)
            for text in small_texts(3):
                self.assertEqual(chain(text), plain_run(writing, text), writing)

    def test_many_chains_on_longer_texts(self):
        texts = list(mixed_texts(6, 30))
        for writing in mixed_writings(300):
            chain = read_chain(writing)
            for text in texts:
                self.assertEqual(chain(text), plain_run(writing, text), writing)

    def test_the_steps_one_behind_the_other(self):
        for writing in WRITINGS:
            for text in mixed_texts(10, 40):
                expected = text
                for step in read_chain(writing):
                    expected = step(expected)
                self.assertEqual(read_chain(writing)(text), expected)

    def test_long_texts_and_the_text_without_tokens(self):
        for writing in WRITINGS:
            chain = read_chain(writing)
            self.assertEqual(chain(long_text()), plain_run(writing, long_text()))
            self.assertEqual([chain([]), chain(())], [[], []])

    def test_a_chain_without_steps_changes_nothing(self):
        for text in mixed_texts(10, 40):
            self.assertEqual(Chain()(text), text)

    def test_new_lists(self):
        for writing in WRITINGS:
            chain = read_chain(writing)
            check_new_text(self, chain, list(NOTE))
            check_new_text(self, chain, [])
            self.assertEqual(chain(text=NOTE), chain(NOTE))

    def test_no_texts(self):
        for writing in WRITINGS:
            for value in NO_TEXTS:
                check_raises(self, InvalidText, "value", value, read_chain(writing), value)
                check_raises(self, InvalidText, "value", value, read_chain(writing), text=value)


class ParagraphTest(unittest.TestCase):
    def test_a_chain_does_with_each_paragraph_what_it_does_with_this_one_alone(self):
        for writing in list(mixed_writings(60)) + WRITINGS:
            chain = read_chain(writing)
            for text in mixed_texts(4, 40):
                starts = [index for index, token in enumerate(text) if token[0][0] == "#"]
                parts = [chain(text[start:end]) for start, end in zip(starts, starts[1:] + [len(text)])]
                self.assertEqual(chain(text), [token for part in parts for token in part], writing)


class SumTest(unittest.TestCase):
    def test_sums(self):
        one, other = Chain([Wrap(5), Shift(1)]), Chain([Shift(1), Hang(0)])
        self.assertEqual(str(one + other), "wrap 5 same; shift 1; shift 1; hang 0")
        self.assertEqual(str(other + one), "shift 1; hang 0; wrap 5 same; shift 1")
        self.assertEqual([one + Chain(), Chain() + one, Chain() + Chain()], [one, one, Chain()])
        self.assertEqual([str(one), str(other)], ["wrap 5 same; shift 1", "shift 1; hang 0"])
        for text in mixed_texts(5, 30):
            self.assertEqual((one + other)(text), other(one(text)))

    def test_too_many_steps(self):
        for one, other in ((1, 4), (4, 1), (3, 2), (4, 4)):
            with self.assertRaises(TooMany) as caught:
                Chain([Group(1)] * one) + Chain([Group(2)] * other)
            self.assertEqual(caught.exception.count, one + other)
        self.assertEqual(len(Chain([Group(1)] * 3) + Chain([Group(2)])), 4)

    def test_no_chains(self):
        for other in ODD_VALUES + [0, "-", "group 1", [Group(1)], (Group(1),), Group(1), Stock(["#0"])]:
            for chain in (Chain(), Chain([Group(1)] * 4)):
                check_raises(self, InvalidChain, "value", other, operator.add, chain, other)

    def test_without(self):
        chain = Chain([Wrap(5), Shift(1), Join("|"), Hang(2)])
        expected = ["shift 1; join |; hang 2", "wrap 5 same; join |; hang 2", "wrap 5 same; shift 1; hang 2",
                    "wrap 5 same; shift 1; join |"]
        self.assertEqual([str(chain.without(index)) for index in range(4)], expected)
        self.assertEqual(str(chain.without(index=3)), expected[3])
        self.assertEqual(str(chain), "wrap 5 same; shift 1; join |; hang 2")
        self.assertEqual(Chain([Group(1)]).without(0), Chain())


class ReadTest(unittest.TestCase):
    def test_token_by_token_the_same_marks_come_out(self):
        for writing in WRITINGS + list(mixed_writings(40)):
            chain = read_chain(writing)
            for text in mixed_texts(4, 30):
                self.assertEqual(read_through(chain, text), chain(text), writing)

    def test_states_are_finitely_many_tuples_of_as_many_integers(self):
        for writing in WRITINGS:
            chain = read_chain(writing)
            for state in [chain.begin()] + states_of(chain, (1, 2, 30)):
                self.assertIs(state.__class__, tuple)
                self.assertEqual([item.__class__ for item in state], [int] * len(chain.begin()))

    def test_equal_calls_of_equal_chains_return_equal_states(self):
        for writing in WRITINGS:
            chain, other = read_chain(writing), read_chain(writing)
            self.assertEqual(chain.begin(), other.begin())
            state = chain.begin()
            for mark, word in NOTE:
                one = chain.read(state, mark, len(word))
                self.assertEqual(other.read(tuple(list(state)), mark, len(word)), one)
                self.assertEqual(chain.read(length=len(word), mark=mark, state=state), one)
                state = one[1]

    def test_invalid_states(self):
        for writing in WRITINGS:
            chain = read_chain(writing)
            begin = chain.begin()
            wrong = [None, True, 0, "", list(begin), {}, begin + (0,), [0], begin + begin + (1,), (None,) * len(begin)]
            if begin:
                wrong += [(), begin[1:], (True,) + begin[1:], begin[:-1] + (False,), (begin,) + begin[1:]]
            for state in [state for state in wrong if state != begin or isinstance(state, list)]:
                check_raises(self, InvalidState, "value", state, chain.read, state, "#0", 1)

    def test_invalid_marks_and_lengths(self):
        for writing in WRITINGS:
            chain = read_chain(writing)
            for mark in ODD_VALUES + ["", "#", "#4", "_", 0, ["#0"]]:
                check_raises(self, InvalidMark, "value", mark, chain.read, chain.begin(), mark, 1)
            for length in ODD_VALUES + [0, -1, 31, 10 ** 29, "1", [1]]:
                check_raises(self, InvalidInteger, "value", length, chain.read, chain.begin(), "#0", length)

    def test_the_first_wrong_argument_is_told(self):
        for writing in WRITINGS:
            chain = read_chain(writing)
            state, mark, length = [0], ["#0"], ["1"]
            check_raises(self, InvalidState, "value", state, chain.read, state, mark, length)
            check_raises(self, InvalidMark, "value", mark, chain.read, chain.begin(), mark, length)


class WritingTest(unittest.TestCase):
    def test_writings_come_back(self):
        for writing in WRITINGS + list(mixed_writings(200)) + all_writings():
            chain = read_chain(writing)
            self.assertEqual(str(chain), writing)
            self.assertEqual(chain, read_chain(text=str(chain)))
            expected = [] if writing == "-" else [read_step(part) for part in writing.split("; ")]
            self.assertEqual(chain.steps(), expected)

    def test_the_chain_without_steps(self):
        self.assertEqual([str(Chain()), read_chain("-"), len(read_chain("-"))], ["-", Chain(), 0])

    def test_four_steps_and_five(self):
        self.assertEqual(len(read_chain("; ".join(["shift 1"] * 4))), 4)
        for many in (5, 6, 300):
            text = "; ".join(["shift 1"] * many)
            check_raises(self, InvalidChain, "value", text, read_chain, text)

    def test_wrong_writings(self):
        wrong = [
            "", " ", "--", "- ", " -", "-\n", "\n", ";", "; ", "-; -", "-; group 1", "group 1; -", "group 1;",
            "group 1; ", "; group 1", "group 1;group 2", "group 1 ; group 2", "group 1;  group 2", "group 1; ; group 2",
            "group 1, group 2", "group 1\ngroup 2", "group 1;\ngroup 2", "group 1; group 2\n", " group 1", "Group 1",
            "group 1; group 10", "group 01", "group 1; group 02", "group +1", "wrap 5", "wrap 5 same; join",
            "group  1", "group 1; Join |", "group 1;; group 2", "group 1. group 2", "_",
        ]
        for text in wrong:
            check_raises(self, InvalidChain, "value", text, read_chain, text)

    def test_long_strings_and_other_values(self):
        values = ["; " * 2000, "-" * 4000, "group 1; " * 400, "wrap " + "1" * 3000 + " same"]
        values += ODD_VALUES + [0, ["group 1"], ("-",), {"-": 1}, Chain(), Group(1), [Group(1)]]
        for value in values:
            check_raises(self, InvalidChain, "value", value, read_chain, value)

    def test_repr_is_a_string(self):
        self.assertIsInstance(repr(Chain([Alone(1), Turn("|", "/"), Align("#", 0)])), str)

    def test_a_chain_is_no_step(self):
        self.assertIs(is_step(Chain([Group(1)])), False)


if __name__ == "__main__":
    unittest.main()
