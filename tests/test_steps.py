"""Points [3], [31], [32] and [33]: the steps."""

import unittest

from reflows.chains import Chain
from reflows.errors import InvalidInteger, InvalidMark, InvalidMarks, InvalidState, InvalidStep, InvalidText
from reflows.steps import Align, Alone, Group, Hang, Join, Shift, Turn, Wrap, is_step, read_step
from reflows.stocks import Stock
from reflows.words import all_marks
from tests.helper import (
    ALIGN_KINDS, NO_TEXTS, NOTE, ODD_VALUES, all_writings, check_new_text, check_raises, long_text, mixed_texts,
    plain_run, read_through, small_texts, states_of,
)

# No integers for any argument of a step, and no strings for any either.
NO_ARGUMENTS = ODD_VALUES + [
    -4, 13, 99, 10 ** 29, -10 ** 29, "", "1", "0", "Same", "same ", " ", "x", "#0", "|#", "/|", "##", "||", "/#", "|/#",
    "#/|", "# |", "#|/|", ["|"], ("|", "/"), ["#"], [1], (1,), {"|": 1}, Chain(), Shift(1), Stock(["#0"]),
]

ONE_OF_EACH = [Wrap(5), Wrap(5, 2), Group(2), Alone(3), Join("/"), Turn("|", "/"), Align("#/", 1), Shift(-2), Hang(1)]


def all_steps():
    """Return all steps, made by their classes, in the order of their writings in the helper."""
    found = [Wrap(width, indent) for width in range(1, 13) for indent in ("same", 0, 1, 2, 3)]
    found += [Group(most) for most in range(1, 10)] + [Alone(longest) for longest in range(13)]
    found += [Join(kinds) for kinds in ("|", "/", "|/")]
    found += [Turn(kinds, kind) for kinds in ("|", "/", "|/") for kind in "#|/"]
    found += [Align(kinds, indent) for kinds in ALIGN_KINDS for indent in range(4)]
    return found + [Shift(by) for by in range(-3, 4)] + [Hang(by) for by in range(-3, 4)]


def marks_made(step, writing_marks, length=1):
    """Return the marks that a step makes of these marks, with words of one length."""
    return [mark for mark, _ in step([(mark, "a" * length) for mark in writing_marks])]


class ExampleTest(unittest.TestCase):
    text = [("#1", "aaa"), (" ", "bb"), (" ", "cc"), ("|0", "d")]

    def test_wrap(self):
        self.assertEqual([Wrap(7)(self.text), Wrap(7, 3)(self.text)], [
            [("#1", "aaa"), (" ", "bb"), ("/1", "cc"), ("|0", "d")],
            [("#1", "aaa"), (" ", "bb"), ("/3", "cc"), ("|0", "d")],
        ])

    def test_other_kinds(self):
        found = [Join("|")(self.text)[3], Align("#|", 2)(self.text)[0], Shift(-1)(self.text)[0],
                 str(Turn("|/", "#")), Alone(2)(self.text)[1]]
        self.assertEqual(found, [(" ", "d"), ("#2", "aaa"), ("#0", "aaa"), "turn |/ #", ("/1", "bb")])

    def test_hang(self):
        made = Hang(1)([("#0", "a"), ("/3", "b"), ("|2", "c"), ("/0", "d")])
        self.assertEqual(made, [("#0", "a"), ("/1", "b"), ("|2", "c"), ("/3", "d")])

    def test_a_wrong_writing(self):
        text = "wrap 13 same"
        check_raises(self, InvalidStep, "value", text, read_step, text)


class ArgumentTest(unittest.TestCase):
    def check_argument(self, made, good, error, values):
        """Check that a class takes just the good ones of these values; made makes a step of one of them."""
        for value in values:
            known = [item for item in good if item.__class__ is value.__class__ and item == value]
            if known:
                self.assertTrue(is_step(made(value)))
            else:
                check_raises(self, error, "value", value, made, value)

    def check_integer(self, made, low, high, more=()):
        good = list(range(low, high + 1)) + list(more)
        values = list(range(-5, 16)) + ["same", "|", "/", "|/"] + NO_ARGUMENTS
        self.check_argument(made, good, InvalidInteger, values)

    def test_integers(self):
        self.check_integer(Wrap, 1, 12)
        self.check_integer(lambda indent: Wrap(5, indent), 0, 3, ["same"])
        self.check_integer(Group, 1, 9)
        self.check_integer(Alone, 0, 12)
        self.check_integer(lambda indent: Align("|", indent), 0, 3)
        self.check_integer(Shift, -3, 3)
        self.check_integer(Hang, -3, 3)

    def test_kinds(self):
        values = list(ALIGN_KINDS) + ["same", 0, 1, 2] + NO_ARGUMENTS
        self.check_argument(Join, ["|", "/", "|/"], InvalidMarks, values)
        self.check_argument(lambda kinds: Turn(kinds, "#"), ["|", "/", "|/"], InvalidMarks, values)
        self.check_argument(lambda kinds: Align(kinds, 0), ALIGN_KINDS, InvalidMarks, values)
        self.check_argument(lambda kind: Turn("|", kind), ["#", "|", "/"], InvalidMark, values)

    def test_the_first_wrong_argument_is_told(self):
        low, high = 10 ** 20, 10 ** 21
        check_raises(self, InvalidInteger, "value", low, Wrap, low, high)
        check_raises(self, InvalidInteger, "value", low, Wrap, indent=high, width=low)
        kinds, kind = ["|"], ["#"]
        check_raises(self, InvalidMarks, "value", kinds, Turn, kinds, kind)
        check_raises(self, InvalidMarks, "value", kinds, Turn, kind=kind, kinds=kinds)
        check_raises(self, InvalidMarks, "value", kinds, Align, kinds, high)
        check_raises(self, InvalidMarks, "value", kinds, Align, indent=high, kinds=kinds)

    def test_parameter_names(self):
        made = [Wrap(width=7, indent=1), Wrap(width=7), Group(most=2), Alone(longest=0), Join(kinds="|"),
                Turn(kind="#", kinds="/"), Align(indent=3, kinds="#"), Shift(by=-3), Hang(by=3)]
        expected = ["wrap 7 1", "wrap 7 same", "group 2", "alone 0", "join |", "turn / #", "align # 3", "shift -3",
                    "hang 3"]
        self.assertEqual([str(step) for step in made], expected)


class TurningTest(unittest.TestCase):
    def test_all_steps_on_all_small_texts(self):
        texts = list(small_texts(3, (1,)))
        for writing in all_writings():
            step = read_step(writing)
            for text in texts:
                self.assertEqual(step(text), plain_run(writing, text), writing)

    def test_all_steps_on_longer_texts(self):
        for text in mixed_texts(25, 40):
            for writing in all_writings():
                self.assertEqual(read_step(writing)(text), plain_run(writing, text), writing)

    def test_all_steps_on_a_text_of_300_tokens(self):
        for writing in all_writings():
            self.assertEqual(read_step(writing)(long_text()), plain_run(writing, long_text()), writing)

    def test_the_text_without_tokens(self):
        for step in all_steps():
            self.assertEqual([step([]), step(())], [[], []])

    def test_wrap_at_its_width(self):
        for width in range(2, 13):
            for depth in range(4):
                mark = "#" + str(depth)
                for length in range(1, 14):
                    fits = depth + 1 + 1 + length <= width
                    expected = [mark, " " if fits else "/" + str(depth)]
                    made = Wrap(width)([(mark, "a"), (" ", "b" * length)])
                    self.assertEqual([token[0] for token in made], expected)

    def test_wrap_of_words_longer_than_the_width(self):
        text = [("#2", "a" * 30), (" ", "b"), (" ", "c"), (" ", "d" * 13), ("|0", "e"), (" ", "f")]
        self.assertEqual([mark for mark, _ in Wrap(12)(text)], ["#2", "/2", " ", "/2", "|0", " "])
        self.assertEqual([mark for mark, _ in Wrap(1)(text)], ["#2", "/2", "/2", "/2", "|0", "/0"])

    def test_wrap_with_its_own_indentation(self):
        # The line that is made begins at the indentation of the step: so it has room for less.
        text = [("#0", "aaa"), (" ", "bbb"), (" ", "c"), (" ", "d")]
        self.assertEqual([mark for mark, _ in Wrap(6, 0)(text)], ["#0", "/0", " ", "/0"])
        self.assertEqual([mark for mark, _ in Wrap(6, 3)(text)], ["#0", "/3", "/3", " "])
        self.assertEqual([mark for mark, _ in Wrap(6, "same")(text)], ["#0", "/0", " ", "/0"])
        self.assertEqual([mark for mark, _ in Wrap(6)([("#3", "aaa")] + text[1:])], ["#3", "/3", "/3", " "])

    def test_other_breaks_stay_in_wrap_group_and_alone(self):
        for mark in all_marks()[1:]:
            text = [("#0", "aaaaaa"), (mark, "bbbbbb")]
            for step in (Wrap(1, 3), Group(1), Alone(0), Wrap(12), Group(9), Alone(12)):
                self.assertEqual(step(text), text)

    def test_group_counts_the_words_of_the_line(self):
        for most in range(1, 10):
            marks = ["#1"] + [" "] * 19
            expected = ["#1"] + [" " if index - index // most * most else "/1" for index in range(1, 20)]
            self.assertEqual(marks_made(Group(most), marks), expected)
        self.assertEqual(marks_made(Group(2), ["#0", "/3", " ", " ", "|2", " ", " "]),
                         ["#0", "/3", " ", "/3", "|2", " ", "/2"])

    def test_alone_at_its_length(self):
        for longest in range(13):
            for length in range(1, 15):
                expected = "/2" if length > longest else " "
                made = Alone(longest)([("#2", "a"), (" ", "b" * length), (" ", "c")])
                also = "/2" if longest == 0 else expected
                self.assertEqual([mark for mark, _ in made], ["#2", expected, also])

    def test_alone_behind_a_break(self):
        made = Alone(2)([("#0", "aa"), ("|1", "bbb"), (" ", "c"), (" ", "d"), ("/3", "e"), (" ", "fff")])
        self.assertEqual([mark for mark, _ in made], ["#0", "|1", "/1", " ", "/3", "/3"])

    def test_join_and_turn_of_each_row_of_kinds(self):
        marks = ["#0", "|1", "/2", "#3", " "]
        self.assertEqual(marks_made(Join("|"), marks), ["#0", " ", "/2", "#3", " "])
        self.assertEqual(marks_made(Join("/"), marks), ["#0", "|1", " ", "#3", " "])
        self.assertEqual(marks_made(Join("|/"), marks), ["#0", " ", " ", "#3", " "])
        self.assertEqual(marks_made(Turn("|", "/"), marks), ["#0", "/1", "/2", "#3", " "])
        self.assertEqual(marks_made(Turn("/", "#"), marks), ["#0", "|1", "#2", "#3", " "])
        self.assertEqual(marks_made(Turn("|/", "|"), marks), ["#0", "|1", "|2", "#3", " "])

    def test_align_of_each_row_of_kinds(self):
        marks = ["#0", "|1", "/2", " "]
        expected = {
            "#": ["#3", "|1", "/2", " "], "|": ["#0", "|3", "/2", " "], "/": ["#0", "|1", "/3", " "],
            "#|": ["#3", "|3", "/2", " "], "#/": ["#3", "|1", "/3", " "], "|/": ["#0", "|3", "/3", " "],
            "#|/": ["#3", "|3", "/3", " "],
        }
        for kinds, made in expected.items():
            self.assertEqual(marks_made(Align(kinds, 3), marks), made)

    def test_indentations_stay_between_0_and_3(self):
        marks = ["#0", "#3", "|0", "|3", "/0", "/3", " "]
        self.assertEqual(marks_made(Shift(3), marks), ["#3", "#3", "|3", "|3", "/3", "/3", " "])
        self.assertEqual(marks_made(Shift(-3), marks), ["#0", "#0", "|0", "|0", "/0", "/0", " "])
        self.assertEqual(marks_made(Shift(-1), marks), ["#0", "#2", "|0", "|2", "/0", "/2", " "])
        self.assertEqual(marks_made(Shift(0), marks), marks)
        self.assertEqual(marks_made(Hang(3), ["#1", "/0", "|0", "/0", " "]), ["#1", "/3", "|0", "/3", " "])
        self.assertEqual(marks_made(Hang(-3), ["#1", "/3", "|3", "/3", " "]), ["#1", "/0", "|3", "/0", " "])

    def test_hang_behind_paragraphs_and_hard_breaks(self):
        marks = ["#1", "/0", "/3", " ", "/2", "|0", " ", "/3", "#3", "/0", "|1", "#0", "/2"]
        expected = ["#1", "/2", "/2", " ", "/2", "|0", " ", "/1", "#3", "/3", "|1", "#0", "/1"]
        self.assertEqual(marks_made(Hang(1), marks), expected)

    def test_words_and_the_first_kind_stay(self):
        for step in all_steps():
            for text in mixed_texts(3, 12):
                made = step(text)
                self.assertEqual([token[1] for token in made], [token[1] for token in text])
                self.assertEqual(made[0][0][0], "#")

    def test_new_lists(self):
        for step in ONE_OF_EACH:
            check_new_text(self, step, list(NOTE))
            check_new_text(self, step, [])
            self.assertEqual(step(text=NOTE), step(NOTE))

    def test_no_texts(self):
        for step in ONE_OF_EACH:
            for value in NO_TEXTS:
                check_raises(self, InvalidText, "value", value, step, value)
                check_raises(self, InvalidText, "value", value, step, text=value)


class WritingTest(unittest.TestCase):
    def test_the_writings_of_all_steps(self):
        self.assertEqual([str(step) for step in all_steps()], all_writings())
        self.assertEqual(len(set(all_writings())), 136)

    def test_read_step_gives_back_each_step(self):
        for step in all_steps():
            again = read_step(str(step))
            self.assertIs(again.__class__, step.__class__)
            self.assertIs(again == step, True)
            self.assertIs(again != step, False)
            self.assertEqual(str(again), str(step))
        self.assertEqual(str(read_step(text="wrap 10 same")), "wrap 10 same")

    def test_steps_are_equal_if_their_writings_are(self):
        steps = all_steps()
        for one in steps:
            for other in steps:
                self.assertIs(one == other, str(one) == str(other))

    def test_steps_equal_no_other_values(self):
        for step in ONE_OF_EACH:
            for value in [str(step), None, 1, [step], (step,), Chain([step]), Stock(["#0"])]:
                self.assertIs(step == value, False)
                self.assertIs(step != value, True)

    def test_same_given_and_left_out(self):
        self.assertEqual(Wrap(4), Wrap(4, "same"))
        self.assertEqual(str(Wrap(4)), "wrap 4 same")
        self.assertNotEqual(Wrap(4), Wrap(4, 0))

    def test_repr_is_a_string(self):
        for step in ONE_OF_EACH:
            self.assertIsInstance(repr(step), str)

    def test_just_the_writings_are_read(self):
        known = set(all_writings())
        parts = ["same", "#", "|", "/", "|/", "#|/", "/|", "##", "#0"]
        parts += [str(number) for number in range(-5, 16)] + ["-0", "00", "01", "+1", "--1", "1.", "", "x", "SAME"]
        names = ["wrap", "group", "alone", "join", "turn", "align", "shift", "hang", "", "Wrap", "wrapp", "-"]
        texts = names + [f"{name} {one}" for name in names for one in parts]
        texts += [f"{name} {one} {other}" for name in names for one in parts for other in parts]
        texts += [f"{writing} {part}" for writing in known for part in ["same", "1", "|", "x", ""]]
        for text in texts:
            if text in known:
                self.assertEqual(str(read_step(text)), text)
            else:
                check_raises(self, InvalidStep, "value", text, read_step, text)

    def test_writings_that_are_a_little_wrong(self):
        for writing in all_writings():
            wrong = [writing + " ", " " + writing, writing.replace(" ", "  ", 1), writing + "\n", "\n" + writing,
                     writing.replace(" ", "\n", 1), writing.upper(), writing.capitalize(), writing + ";", writing[1:],
                     writing.replace(" ", "", 1), writing.replace(" ", " 0", 1), writing.replace(" ", " +", 1),
                     writing.replace(" ", " '", 1), writing + ".", writing.replace(" ", " -0", 1), "'" + writing + "'"]
            for text in wrong:
                check_raises(self, InvalidStep, "value", text, read_step, text)

    def test_long_strings_and_other_values(self):
        values = ["wrap " + "9" * 3900 + " same", "a " * 1999 + "a", "shift -" + "1" * 3990]
        values += ODD_VALUES + [0, 1, ["wrap 3 same"], ("group", "2"), ("group", 2), {"group": 2}, Group(2), Chain()]
        for value in values:
            check_raises(self, InvalidStep, "value", value, read_step, value)


class ReachTest(unittest.TestCase):
    def test_the_reach_of_all_steps(self):
        for step in all_steps():
            name, number = str(step).split(" ")[:2]
            self.assertEqual(step.reach, int(number) if name in ("wrap", "alone") else 0)
            self.assertNotIsInstance(step.reach, bool)

    def test_words_longer_than_the_reach_act_alike(self):
        for step in all_steps():
            for state in states_of(step):
                for mark in all_marks():
                    first = step.read(state, mark, step.reach + 1)
                    for length in range(step.reach + 1, 31):
                        self.assertEqual(step.read(state, mark, length), first, str(step))


class IsStepTest(unittest.TestCase):
    def test_steps_and_other_values(self):
        for step in all_steps():
            self.assertIs(is_step(step), True)
        self.assertIs(is_step(value=Group(1)), True)
        for value in ODD_VALUES + [0, "wrap 3 same", "", [Group(1)], (Group(1),), Chain([Group(1)]), Stock(["#0"])]:
            self.assertIs(is_step(value), False)


class ReadTest(unittest.TestCase):
    def test_token_by_token_the_same_marks_come_out(self):
        for step in all_steps():
            for text in mixed_texts(8, 30):
                self.assertEqual(read_through(step, text), step(text), str(step))

    def test_states_are_tuples_of_as_many_integers(self):
        for step in all_steps():
            many = len(step.begin())
            for state in [step.begin()] + states_of(step):
                self.assertIs(state.__class__, tuple)
                self.assertEqual([item.__class__ for item in state], [int] * many)

    def test_equal_calls_of_equal_steps_return_equal_states(self):
        for step in all_steps():
            other = read_step(str(step))
            self.assertEqual(step.begin(), other.begin())
            for state in states_of(step, (1, 2, 12)):
                for mark in all_marks():
                    self.assertEqual(step.read(state, mark, 3), other.read(tuple(list(state)), mark, 3))

    def test_reading_changes_nothing(self):
        for step in ONE_OF_EACH:
            _, state = step.read(step.begin(), "#1", 3)
            first = step.read(state, " ", 2)
            step.read(first[1], "/3", 5)
            step(NOTE)
            self.assertEqual(step.read(state, " ", 2), first)
            self.assertEqual(first.__class__, tuple)
            self.assertEqual(step.read(length=2, mark=" ", state=state), first)

    def test_invalid_states(self):
        for step in ONE_OF_EACH:
            begin = step.begin()
            wrong = [None, True, 0, "", "00", list(begin), {}, begin + (0,), begin + begin + (1,), [0], {0: 0}, Chain()]
            if begin:
                wrong += [(), begin[1:], (True,) + begin[1:], begin[:-1] + (False,), ("0",) + begin[1:],
                          begin[:-1] + (None,), (begin,), ((0,),) + begin[1:]]
            for state in wrong:
                check_raises(self, InvalidState, "value", state, step.read, state, "#0", 1)

    def test_invalid_marks(self):
        for step in ONE_OF_EACH:
            for mark in ODD_VALUES + ["", "#", "#4", "  ", "0", "_", "/2\n", 0, ["#0"], ("#0",)]:
                check_raises(self, InvalidMark, "value", mark, step.read, step.begin(), mark, 1)

    def test_invalid_lengths(self):
        for step in ONE_OF_EACH:
            for length in ODD_VALUES + [0, -1, 31, 10 ** 29, -10 ** 29, "1", "a", [1], (1,)]:
                check_raises(self, InvalidInteger, "value", length, step.read, step.begin(), "#0", length)
            for length in (1, 30):
                self.assertEqual(step.read(step.begin(), "#0", length)[0], step([("#0", "a" * length)])[0][0])

    def test_the_first_wrong_argument_is_told(self):
        for step in ONE_OF_EACH:
            state, mark, length = [0], ["#0"], ["1"]
            check_raises(self, InvalidState, "value", state, step.read, state, mark, length)
            check_raises(self, InvalidState, "value", state, step.read, length=length, mark=mark, state=state)
            check_raises(self, InvalidMark, "value", mark, step.read, step.begin(), mark, length)


if __name__ == "__main__":
    unittest.main()
