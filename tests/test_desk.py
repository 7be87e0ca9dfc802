"""Points [131], [132] and [133]: the desk."""

import copy
import random
import unittest

from reflows.backs import takes_back
from reflows.chains import Chain, read_chain
from reflows.comparisons import alike, settles
from reflows.desk import Desk
from reflows.errors import (
    AbsentError, InvalidChain, InvalidLine, InvalidLines, InvalidName, InvalidStock, InvalidText, NoChain,
    NothingToRedo, NothingToUndo, ReflowError, StateError, TooMany,
)
from reflows.machines import Machine
from reflows.rates import widest
from reflows.ripples import ripple
from reflows.stocks import Stock
from reflows.texts import read_text, write_text
from tests.helper import NO_TEXTS, NOTE, ODD_VALUES, check_raises
from tests.plain import LARGE_STOCK, LARGE_WRITINGS, NO_CHAINS, NO_STOCKS, check_wrong_arguments, done, small_cases

FIRST_STOCK = Stock([" ", "#0", "|0", "/0"], shortest=1, longest=4)
WRAP = read_chain("wrap 6 same")
NO_NAMES = ODD_VALUES + [
    0, 1, "", "A", "aB", "a1", "1", "a b", "abcdefg", "a" * 7, "a" * 200, " a", "a ", "a\n", "\na", "-", "a-", "_", "a_",
    WRAP, ["a"], ("a",), FIRST_STOCK,
]
NO_LINES = ODD_VALUES + [
    # No word, no command, other blanks, and a line feed.
    0, 7, "", " ", "\n", "-", "quit", "a", "puts a -", "pu a -", "text ", " text", "text\n", "\ntext", "text  ", "  text",
    "drop  a", "drop a ", " drop a", "drop\na", "drop a\n", "make  a", "put  a -", "put a  -", "put a wrap  5 same",
    "put a\n-", "put a -\n", "put a wrap 5\nsame", "write  #0a", "write #0a  b", "write #0a\n b", "write #0a ", "use\n#0 : 1 4",
    # A capital.
    "Text", "TEXT", "textS", "Put a -", "put a Wrap 5 same", "put a WRAP 5 same", "Undo", "reDo", "ripple a Word",
    "write #0A", "Drop a",
    # A word too many or too few.
    "put", "put a", "drop", "drop a b", "use", "write", "apply", "apply a b", "undo 1", "undo undo", "undo a", "redo redo",
    "redo -", "text text", "text a", "text -", "chains a", "chains none", "stock a", "stock _ #0 : 1 4", "make", "make a b",
    "make a -", "alike", "alike a", "alike a b c", "settles", "settles a b", "back", "back b", "back a b c", "states",
    "states a b", "ripple", "ripple a", "ripple word", "ripple a word word", "ripple a b word", "widest", "widest a b",
    # Chains, stocks, texts and changes that are not well written.
    "put a wrap", "put a wrap 5", "put a wrap 13 same", "put a wrap 5 same;", "put a wrap 5 same ; join /", "put a ; join /",
    "put a wrap 5 same;join /", "put a b wrap 5 same", "put a - -", "put a -; join /", "put a shift +1", "put a shift 01",
    "put a join /; join /; join /; join /; join /", "put a = join /", "put A wrap 0 same", "put abcdefg join",
    "use _ : 1 4", "use _ #0 : 1", "use #0 _ : 1 4", "use _ #0 : 4 1", "use stock", "use -", "use _ #0 1 4", "use a",
    "use _ #0 : 1 4 4", "use #0 #0 : 1 4", "write a", "write /0a", "write - -", "write -a", "write #0", "write #0a/4b",
    "write #0a - b", "write #4a", "ripple a words", "ripple a tokens", "ripple word a", "ripple a -", "ripple z letter",
    "ripple a #", "write #0a/1", "use # : 1 4",
]
NO_LISTS = ODD_VALUES[:3] + [0, 7, "", "text", {}, {"text": 1}, {0: "text"}, WRAP, FIRST_STOCK, ["text"] * 41,
                             ("text",) * 41, [None] * 41, ["text"] * 300]


def edited():
    """Return a desk with some chains and a text, with edits to take back and one to do again."""
    desk = Desk()
    desk.put("a", WRAP)
    desk.put("b", read_chain("join /"))
    desk.write(NOTE)
    desk.apply("b")
    desk.use(Stock(["#0", " ", "/1"], longest=2))
    desk.undo()
    return desk


def content_of(desk):
    """Return all that can be seen of a desk."""
    return (str(desk.stock), [(name, str(desk[name])) for name in desk.names()], write_text(desk.text))


def history_of(desk):
    """Return the contents that come if all edits are taken back, and if all are done again."""
    found = [content_of(desk)]
    twin = desk.copied()
    for call, error in ((twin.undo, NothingToUndo), (twin.redo, NothingToRedo)):
        while True:
            try:
                call()
            except error:
                break
            found.append(content_of(twin))
    return found


class ExampleTest(unittest.TestCase):
    def test_commands(self):
        desk = Desk()
        lines = ["put mail wrap 6 same", "put flat join /", "write #0aaa bb cc", "apply mail", "text", "back flat mail",
                 "alike mail flat"]
        self.assertEqual(desk.run_all(lines), ["ok", "ok", "ok", "ok", "#0aaa bb/0cc", "no 2", "no 2"])
        self.assertEqual([desk.run("undo"), desk.run("chains"), desk.run("text")], ["ok", "none", "-"])


class EditTest(unittest.TestCase):
    def test_a_new_desk(self):
        desk = Desk()
        self.assertEqual(desk.stock, FIRST_STOCK)
        self.assertEqual([desk.text, desk.names()], [[], []])
        self.assertEqual([desk.text.__class__, desk.names().__class__], [list, list])
        check_raises(self, NoChain, "name", "a", desk.__getitem__, "a")
        self.assertRaises(NothingToUndo, desk.undo)
        self.assertRaises(NothingToRedo, desk.redo)

    def test_edits_return_none(self):
        desk = Desk()
        for call, arguments in [(desk.put, ("a", WRAP)), (desk.write, (NOTE,)), (desk.apply, ("a",)),
                                (desk.use, (FIRST_STOCK,)), (desk.undo, ()), (desk.redo, ()), (desk.drop, ("a",))]:
            self.assertIsNone(call(*arguments))

    def test_chains(self):
        desk = Desk()
        for name in ("b", "abcdef", "a", "zzzzzz", "ab"):
            desk.put(name, WRAP)
        self.assertEqual(desk.names(), ["a", "ab", "abcdef", "b", "zzzzzz"])
        desk.put(name="a", chain=read_chain("join |; hang 1"))
        self.assertEqual([str(desk["a"]), str(desk["b"])], ["join |; hang 1", "wrap 6 same"])
        self.assertEqual(desk["b"], WRAP)
        desk.drop(name="b")
        self.assertEqual(desk.names(), ["a", "ab", "abcdef", "zzzzzz"])
        check_raises(self, NoChain, "name", "b", desk.__getitem__, "b")
        check_raises(self, NoChain, "name", "b", desk.drop, "b")

    def test_twelve_chains_and_one_more(self):
        desk = Desk()
        names = list("abcdefghijkl")
        for name in names:
            desk.put(name, Chain())
        before = history_of(desk)
        with self.assertRaises(TooMany) as caught:
            desk.put("m", WRAP)
        self.assertEqual([caught.exception.__class__, caught.exception.count], [TooMany, 13])
        with self.assertRaises(TooMany) as caught:
            desk.run("put m wrap 6 same")
        self.assertEqual(caught.exception.count, 13)
        # What is no name or no chain is told first.
        check_raises(self, InvalidName, "value", "M", desk.put, "M", WRAP)
        check_raises(self, InvalidChain, "value", None, desk.put, "m", None)
        self.assertEqual(history_of(desk), before)
        desk.put("l", WRAP)
        self.assertEqual([desk.names(), desk["l"]], [names, WRAP])
        desk.drop("a")
        desk.put("m", WRAP)
        self.assertEqual(desk.names(), names[1:] + ["m"])

    def test_texts_and_stocks(self):
        desk = Desk()
        desk.write(text=NOTE)
        self.assertEqual(desk.text, NOTE)
        desk.write(tuple(NOTE[:2]))
        self.assertEqual(desk.text, NOTE[:2])
        desk.write([])
        self.assertEqual(desk.text, [])
        stock = Stock(["#1"], shortest=7, longest=9)
        desk.use(stock=stock)
        self.assertEqual(desk.stock, stock)
        desk.undo()
        self.assertEqual(desk.stock, FIRST_STOCK)

    def test_a_desk_is_not_gone_through(self):
        self.assertRaises(TypeError, list, edited())

    def test_apply(self):
        desk = Desk()
        for number, (writing, stock) in enumerate(small_cases(30)):
            text = stock.text_at(4, number % stock.amount(4))
            desk.write(text)
            desk.put("a", read_chain(writing))
            desk.apply(name="a")
            self.assertEqual(desk.text, done([writing], text))

    def test_wrong_arguments(self):
        desk = edited()
        before = history_of(desk)
        check_wrong_arguments(self, desk.put, {"name": "a", "chain": WRAP}, {
            "name": (InvalidName, NO_NAMES), "chain": (InvalidChain, NO_CHAINS),
        })
        check_wrong_arguments(self, desk.use, {"stock": FIRST_STOCK}, {"stock": (InvalidStock, NO_STOCKS)})
        texts = [text for text in NO_TEXTS if text not in ([], ())]
        check_wrong_arguments(self, desk.write, {"text": []}, {"text": (InvalidText, texts)})
        for name in NO_NAMES + ["c", "ab", "aa"]:
            for call in (desk.drop, desk.apply, desk.__getitem__):
                check_raises(self, NoChain, "name", name, call, name)
        check_raises(self, NoChain, "name", "c", desk.apply, name="c")
        self.assertEqual(history_of(desk), before)

    def test_what_was_handed_in_may_be_changed(self):
        desk = Desk()
        text = copy.copy(NOTE)
        desk.write(text)
        text.clear()
        self.assertEqual(desk.text, NOTE)
        text = copy.copy(NOTE)
        desk.write(text[:1])
        desk.undo()
        self.assertEqual([desk.text, text], [NOTE, NOTE])
        steps = [read_chain("join /")[0]]
        desk.put("a", Chain(steps))
        steps.clear()
        self.assertEqual(str(desk["a"]), "join /")

    def test_lists_are_new(self):
        desk = edited()
        before = history_of(desk)
        for call in (lambda: desk.text, desk.names, lambda: desk.run_all(["text", "chains"])):
            one = call()
            kept = copy.copy(one)
            one.append("more")
            one[:1] = []
            self.assertEqual(call(), kept)
        lines = ["text", "put c -", "undo"]
        desk.copied().run_all(lines)
        self.assertEqual(lines, ["text", "put c -", "undo"])
        self.assertEqual(history_of(desk), before)


class UndoTest(unittest.TestCase):
    def test_back_and_forth(self):
        desk = Desk()
        contents = [content_of(desk)]
        for call, arguments in [(desk.put, ("a", WRAP)), (desk.put, ("b", Chain())), (desk.write, (NOTE,)),
                                (desk.put, ("a", read_chain("join |/"))), (desk.apply, ("a",)), (desk.drop, ("b",)),
                                (desk.use, (Stock(["#3"]),))]:
            call(*arguments)
            contents.append(content_of(desk))
        for _ in range(2):
            for content in contents[-2::-1]:
                desk.undo()
                self.assertEqual(content_of(desk), content)
            self.assertRaises(NothingToUndo, desk.undo)
            self.assertEqual(content_of(desk), contents[0])
            for content in contents[1:]:
                desk.redo()
                self.assertEqual(content_of(desk), content)
            self.assertRaises(NothingToRedo, desk.redo)
            self.assertEqual(content_of(desk), contents[-1])

    def test_another_edit_behind_undo(self):
        desk = edited()
        desk.write([])
        self.assertRaises(NothingToRedo, desk.redo)
        desk.undo()
        self.assertEqual(write_text(desk.text), write_text(done(["join /"], NOTE)))
        desk.redo()
        self.assertEqual(desk.text, [])

    def test_edits_that_change_nothing(self):
        for behind in (False, True):
            desk = edited()
            if not behind:
                desk.redo()
            before = history_of(desk)
            for call, arguments in [
                (desk.put, ("a", Chain(WRAP.steps()))), (desk.write, (desk.text,)), (desk.write, (tuple(desk.text),)),
                (desk.use, (Stock(desk.stock.marks()[::-1], longest=desk.stock.lengths()[-1]),)), (desk.apply, ("b",)),
                (desk.run, ("put a wrap 6 same",)), (desk.run, ("apply b",)), (desk.run, ("text",)),
                (desk.run_all, ([],)), (desk.run_all, (["put c -", "drop c"],)), (desk.run_all, (["undo", "redo"],)),
                (desk.run_all, (["write -", f"write {write_text(desk.text)}"],)),
            ]:
                if behind or arguments != (["undo", "redo"],):
                    call(*arguments)
                self.assertEqual(history_of(desk), before, arguments)
            if behind:
                desk.redo()
                self.assertEqual(desk.stock, Stock(["#0", " ", "/1"], longest=2))
            desk.undo()
            self.assertEqual(desk.stock, FIRST_STOCK)

    def test_words_of_the_same_lengths_are_a_change(self):
        desk = Desk()
        desk.write([("#0", "to")])
        desk.write([("#0", "be")])
        desk.undo()
        self.assertEqual(desk.text, [("#0", "to")])

    def test_two_hundred_edits_and_all_taken_back(self):
        desk = Desk()
        contents = [content_of(desk)]
        for number in range(200):
            desk.write([("#0", "a")] * (number % 7 + 1) + [("|1", "b" * (number % 30 + 1))])
            contents.append(content_of(desk))
        for content in contents[-2::-1]:
            desk.undo()
            self.assertEqual(content_of(desk), content)
        self.assertRaises(NothingToUndo, desk.undo)
        desk.redo()
        self.assertEqual(content_of(desk), contents[1])

    def test_equal_desks(self):
        one, other = edited(), Desk()
        self.assertFalse(one == other)
        self.assertTrue(one != other)
        # The edits do not matter, and neither does the order of the chains.
        other.write(one.text)
        other.put("b", read_chain("join /"))
        self.assertFalse(one == other)
        other.put("a", WRAP)
        self.assertTrue(one == other)
        self.assertTrue(one == one)
        for call, arguments in [(other.put, ("a", Chain())), (other.put, ("c", WRAP)), (other.drop, ("a",)),
                                (other.write, ([],)), (other.use, (Stock(["#0"]),))]:
            call(*arguments)
            self.assertFalse(one == other)
            other.undo()
            self.assertTrue(one == other)
        for value in ODD_VALUES + [0, "", WRAP, FIRST_STOCK, content_of(one)]:
            self.assertIs(one == value, False)
        self.assertEqual(repr(one).__class__, str)

    def test_copied_desks_go_their_own_way(self):
        for first in (False, True):
            desk = edited()
            before = history_of(desk)
            twin = desk.copied()
            self.assertEqual([twin.__class__, twin == desk, history_of(twin)], [Desk, True, before])
            one, other = (desk, twin) if first else (twin, desk)
            one.put("c", Chain())
            one.write([])
            one.drop("a")
            self.assertEqual(history_of(other), before)
            after = history_of(one)
            other.redo()
            self.assertEqual(other.stock, Stock(["#0", " ", "/1"], longest=2))
            other.undo()
            other.undo()
            other.undo()
            other.put("d", Chain())
            self.assertEqual(history_of(one), after)
            self.assertRaises(NothingToRedo, one.redo)


class PlainDesk:
    """A desk by the words of [131] to [133]: all contents that were in effect, and the place of the one that is."""

    def __init__(self):
        self.contents = [(str(FIRST_STOCK), {}, "")]
        self.place = 0

    def change(self, content):
        """Do an edit."""
        if content != self.contents[self.place]:
            self.contents = self.contents[:self.place + 1] + [content]
            self.place += 1

    def run(self, line):
        """Return the answer to a well formed command, or a tuple of the exception and what its field holds."""
        word, *rest = line.split(" ")
        stock, chains, text = self.contents[self.place]
        if word == "put":
            return self.put(rest[0], " ".join(rest[1:]))
        if word in ("undo", "redo"):
            return self.move(word)
        if word in ("use", "write"):
            value = " ".join(rest)
            self.change((value, chains, text) if word == "use" else (stock, chains, "" if value == "-" else value))
            return "ok"
        for name in rest[:1] if word == "ripple" else rest:
            if name not in chains:
                return (NoChain, name)
        if word == "drop":
            self.change((stock, {name: chains[name] for name in chains if name != rest[0]}, text))
            return "ok"
        if word == "apply":
            self.change((stock, chains, write_text(done([chains[rest[0]]], read_text(text)))))
            return "ok"
        return self.answer(word, rest)

    def put(self, name, writing):
        """Do put."""
        stock, chains, text = self.contents[self.place]
        if not (name.isalpha() and name.islower() and len(name) <= 6):
            return (InvalidName, name)
        if len({**chains, name: writing}) > 12:
            return (TooMany, 13)
        self.change((stock, {**chains, name: writing}, text))
        return "ok"

    def move(self, word):
        """Do undo or redo."""
        place = self.place + (1 if word == "redo" else -1)
        if not 0 <= place < len(self.contents):
            return (NothingToUndo if word == "undo" else NothingToRedo, None)
        self.place = place
        return "ok"

    def answer(self, word, rest):
        """Return the answer to a command that is no edit."""
        stock, chains, text = self.contents[self.place]
        if word == "text":
            return text if text else "-"
        if word == "stock":
            return stock
        if word == "chains":
            return " ; ".join([f"{name} = {chains[name]}" for name in sorted(chains)]) or "none"
        if word == "make":
            return write_text(done([chains[rest[0]]], read_text(text))) or "-"
        found = [read_chain(chains[name]) for name in rest if name in chains]
        over = Stock.parse(stock)
        if word in ("alike", "back", "settles"):
            call = {"alike": alike, "back": takes_back, "settles": settles}[word]
            told = call(*found[:len(rest)], over)
            return "yes" if told is None else f"no {len(told)}"
        if word == "states":
            return str(len(Machine(found[0], over)))
        told = widest(found[0], over) if word == "widest" else ripple(found[0], over, rest[1])
        return "endless" if told is None else str(told)

    def run_all(self, lines):
        """Return the answers to well formed commands, or a tuple of the exception that the first refused one raises."""
        trial = copy.deepcopy(self)
        answers = []
        for line in lines:
            answers.append(trial.run(line))
            if isinstance(answers[-1], tuple):
                return answers[-1]
        if "undo" in lines or "redo" in lines:
            self.contents, self.place = trial.contents, trial.place
        else:
            self.change(trial.contents[trial.place])
        return answers

    def history(self):
        """Return what history_of returns of a desk."""
        row = self.contents[self.place::-1] + self.contents[1:]
        return [(stock, sorted(chains.items()), text) for stock, chains, text in row]


NAMES = ["a", "b", "mail", "undo", "text", "word", "put", "zzzzzz", "c", "d", "e", "f", "g", "h"]
WRITINGS = ["-", "wrap 6 same", "join /", "join |/", "group 2", "shift 1; wrap 3 0", "alone 2; hang 1", "turn / |",
            "align #|/ 2", "wrap 3 same"]
STOCK_WRITINGS = ["_ #0 |0 /0 : 1 4", "_ #0 : 1 2", "#1 : 7 7", "_ #0 /1 : 1 3"]
TEXT_WRITINGS = ["-", "#0aaa bb cc", "#1a/2bb|0c d", "#0to", "#3abc abc abc/1abc#0de", "#0aa bb/0c"]


WORDS = ["put", "put", "put", "write", "write", "apply", "apply", "drop", "use", "undo", "undo", "redo", "redo", "text",
         "chains", "stock", "make", "ask", "ask", "ask"]


def some_line(chooser, calm=False, many=4):
    """Return a well formed command with one of so many names; a calm one is refused only if a chain is missing."""
    word = chooser.choice([word for word in WORDS if not calm or word not in ("undo", "redo")])
    name, other = chooser.choice(NAMES[:many]), chooser.choice(NAMES[:many])
    if word == "put":
        name = chooser.choice([name] * 9 + ([] if calm else ["Mail", "toolong", "a1"]))
        return f"put {name} {chooser.choice(WRITINGS)}"
    if word in ("write", "use"):
        return f"{word} {chooser.choice(TEXT_WRITINGS if word == 'write' else STOCK_WRITINGS)}"
    if word in ("undo", "redo", "text", "chains", "stock"):
        return word
    if word in ("drop", "apply", "make"):
        return f"{word} {name}"
    return chooser.choice([f"alike {name} {other}", f"back {name} {other}", f"settles {name}", f"states {name}",
                           f"widest {name}", f"ripple {name} word", f"ripple {name} mark", f"ripple {name} token"])


def told_by(call, *args):
    """Return what a call returns, or a tuple of the exception and what its field holds."""
    try:
        return call(*args)
    except (ReflowError, AbsentError, StateError) as error:
        return (error.__class__, *(list(vars(error).values()) or [None]))


class RunTest(unittest.TestCase):
    def test_commands_one_by_one(self):
        seen = set()
        for seed in range(16):
            chooser, desk, plain = random.Random(seed), Desk(), PlainDesk()
            for _ in range(100):
                line = some_line(chooser, many=4 if seed < 12 else 14)
                answer = plain.run(line)
                self.assertEqual(told_by(desk.run, line), answer, line)
                seen.add((line.split(" ")[0], answer if isinstance(answer, str) else answer[0]))
            self.assertEqual(history_of(desk), plain.history())
        for answer in [("alike", "no 2"), ("alike", "yes"), ("back", "yes"), ("settles", "yes"), ("ripple", "endless"),
                       ("ripple", "0"), ("widest", "endless"), ("chains", "none"), ("undo", "ok"), ("redo", "ok"),
                       ("make", NoChain), ("put", InvalidName), ("undo", NothingToUndo), ("redo", NothingToRedo)]:
            self.assertTrue(answer in seen, answer)

    def test_commands_by_methods(self):
        chooser, desk, twin = random.Random(70), Desk(), Desk()
        for _ in range(190):
            line = some_line(chooser)
            word, *rest = line.split(" ")
            if word in ("put", "drop", "apply", "undo", "redo", "write", "use"):
                arguments = rest
                if word == "put":
                    arguments = [rest[0], read_chain(" ".join(rest[1:]))]
                if word in ("write", "use"):
                    writing = " ".join(rest)
                    arguments = [Stock.parse(writing) if word == "use" else read_text("" if writing == "-" else writing)]
                answer = told_by(getattr(desk, word), *arguments)
                self.assertEqual(told_by(twin.run, line), "ok" if answer is None else answer)
                self.assertTrue(desk == twin)
        self.assertEqual(history_of(desk), history_of(twin))

    def test_each_form(self):
        desk = Desk()
        for line, answer in [
            ("text", "-"), ("chains", "none"), ("stock", "_ #0 |0 /0 : 1 4"), ("put a group 2", "ok"), ("make a", "-"),
            ("write #0aaa bb cc", "ok"), ("text", "#0aaa bb cc"), ("make a", "#0aaa bb/0cc"), ("text", "#0aaa bb cc"),
            ("put none -", "ok"), ("chains", "a = group 2 ; none = -"), ("alike a none", "no 3"), ("alike a a", "yes"),
            ("settles a", "yes"), ("back none a", "no 3"), ("back a none", "no 3"), ("back none none", "yes"),
            ("states none", "2"), ("ripple a mark", "endless"), ("ripple none mark", "0"), ("ripple none token", "0"),
            ("ripple a word", "0"), ("widest a", "9"), ("widest none", "endless"), ("apply a", "ok"),
            ("text", "#0aaa bb/0cc"), ("use _ #1 : 2 3", "ok"), ("stock", "_ #1 : 2 3"),
            ("undo", "ok"), ("stock", "_ #0 |0 /0 : 1 4"), ("redo", "ok"), ("stock", "_ #1 : 2 3"), ("write -", "ok"),
            ("text", "-"), ("drop a", "ok"), ("chains", "none = -"), ("drop none", "ok"), ("chains", "none"),
            ("put all wrap 3 same; join |; turn / |; hang -1", "ok"),
            ("chains", "all = wrap 3 same; join |; turn / |; hang -1"),
        ]:
            self.assertEqual(desk.run(line), answer, line)
        self.assertEqual(desk.run(line="stock"), "_ #1 : 2 3")

    def test_the_first_chain_is_the_one_that_takes_back(self):
        desk = Desk()
        desk.run_all(["use _ #0 #1 : 1 2", "put up shift 1", "put down shift -1"])
        self.assertEqual([desk.run("back down up"), desk.run("back up down")], ["yes", "no 1"])

    def test_names_that_are_words_of_a_command(self):
        words = ["put", "drop", "use", "write", "apply", "undo", "redo", "text", "chains", "stock", "make", "alike"]
        desk = Desk()
        for word in words:
            self.assertEqual(desk.run(f"put {word} join /"), "ok")
        self.assertEqual(desk.names(), sorted(words))
        self.assertEqual(desk.run("chains"), " ; ".join([f"{word} = join /" for word in sorted(words)]))
        desk.run("write #0a/0b")
        self.assertEqual([desk.run("make make"), desk.run("text"), desk.run("alike alike text")], ["#0a b", "#0a/0b", "yes"])
        self.assertEqual([desk.run("apply apply"), desk.run("text"), desk.run("undo")], ["ok", "#0a b", "ok"])
        self.assertEqual([desk.run("drop drop"), desk.run("drop undo"), desk.run("undo")], ["ok", "ok", "ok"])
        self.assertEqual(desk.names(), sorted([word for word in words if word != "drop"]))
        desk.run_all(["drop put", "put word -", "drop use", "put mark group 2"])
        self.assertEqual([desk.run("ripple word word"), desk.run("ripple mark mark")], ["0", "endless"])
        check_raises(self, InvalidLine, "value", "undo undo", desk.run, "undo undo")

    def test_lines_of_no_form(self):
        desk = edited()
        before = history_of(desk)
        for line in NO_LINES:
            check_raises(self, InvalidLine, "value", line, desk.run, line)
            lines = ["put c -", line]
            check_raises(self, InvalidLine, "value", line, desk.run_all, lines)
        self.assertEqual(history_of(desk), before)

    def test_lines_of_no_form_beside_missing_chains(self):
        desk = Desk()
        for line in NO_LINES:
            check_raises(self, InvalidLine, "value", line, desk.run, line)

    def test_missing_chains(self):
        desk = edited()
        before = history_of(desk)
        for line, name in [
            ("drop c", "c"), ("apply c", "c"), ("make c", "c"), ("settles A", "A"), ("states #0a", "#0a"),
            ("widest abcdefg", "abcdefg"), ("alike c d", "c"), ("alike a d", "d"), ("alike c a", "c"), ("back a c", "c"),
            ("back c a", "c"), ("back - -", "-"), ("ripple c word", "c"), ("ripple word word", "word"), ("drop 1", "1"),
            ("ripple ; mark", ";"), ("alike a ab", "ab"),
        ]:
            with self.assertRaises(NoChain) as caught:
                desk.run(line)
            self.assertEqual([caught.exception.__class__, caught.exception.name], [NoChain, name])
        for line, name in [("put A -", "A"), ("put abcdefg wrap 6 same", "abcdefg"), ("put a1 -", "a1"), ("put - -", "-"),
                           ("put ; join /", ";")]:
            with self.assertRaises(InvalidName) as caught:
                desk.run(line)
            self.assertEqual([caught.exception.__class__, caught.exception.value], [InvalidName, name])
        self.assertRaises(NothingToUndo, Desk().run, "undo")
        self.assertRaises(NothingToRedo, Desk().run, "redo")
        self.assertEqual(history_of(desk), before)

    def test_large_chains_and_stocks(self):
        desk = Desk()
        desk.use(LARGE_STOCK)
        desk.run_all([f"put {name} {writing}" for name, writing in zip("abcd", LARGE_WRITINGS)] + ["put j join |/"])
        for name in "abcd":
            for line in (f"alike {name} j", f"settles {name}", f"back j {name}", f"states {name}", f"widest {name}",
                         f"ripple {name} word"):
                self.assertNotEqual(desk.run(line), "ok")


class RunAllTest(unittest.TestCase):
    def test_many_lists(self):
        seen = []
        for seed in range(70):
            chooser, desk, plain = random.Random(900 + seed), Desk(), PlainDesk()
            for _ in range(12):
                calm = chooser.random() < 0.6
                lines = [some_line(chooser, calm) for _ in range(chooser.choice([0, 1, 2, 3, 5, 7]))]
                answers = plain.run_all(lines)
                self.assertEqual(told_by(desk.run_all, lines), answers, lines)
                self.assertEqual(history_of(desk), plain.history(), lines)
                seen.append((answers.__class__, "undo" in lines or "redo" in lines, len(lines) > 2))
        for kind in (list, tuple):
            for turned in (False, True):
                self.assertGreater(seen.count((kind, turned, True)), 4)

    def test_a_refused_line(self):
        desk = edited()
        before = history_of(desk)
        for lines, error in [
            (["put c -", "write -", "drop d"], NoChain), (["undo", "undo", "redo", "quit"], InvalidLine),
            (["redo", "redo"], NothingToRedo), (["undo"] * 5, NothingToUndo), (["undo", "write #0a", "put A -"], InvalidName),
            (["drop a", "apply a"], NoChain), (["text", "undo", None], InvalidLine), (["put c -", ["text"]], InvalidLine),
            (["redo", "use _ #0 : 1 1", "undo", "undo", "undo", "undo", "redo", "write #0b", "text "], InvalidLine),
            ([f"put {name} -" for name in "cdefghijklmn"], TooMany),
        ]:
            with self.assertRaises(error) as caught:
                desk.run_all(lines)
            self.assertEqual(caught.exception.__class__, error)
            self.assertEqual(history_of(desk), before, lines)

    def test_the_field_holds_the_very_line(self):
        desk = Desk()
        for line in NO_LINES:
            for lines in ([line, None], ["text", line, "quit"], (line,)):
                check_raises(self, InvalidLine, "value", line, desk.run_all, lines)
        # A line that is refused ahead of it is reached first.
        with self.assertRaises(NothingToUndo):
            desk.run_all(["undo", None])

    def test_what_is_no_list_of_lines(self):
        desk = edited()
        before = history_of(desk)
        for lines in NO_LISTS:
            check_raises(self, InvalidLines, "value", lines, desk.run_all, lines)
            check_raises(self, InvalidLines, "value", lines, desk.run_all, lines=lines)
        self.assertEqual(history_of(desk), before)

    def test_forty_lines_and_none(self):
        desk = edited()
        before = history_of(desk)
        self.assertEqual([desk.run_all([]), desk.run_all(())], [[], []])
        self.assertEqual(desk.run_all(["stock"] * 40), ["_ #0 |0 /0 : 1 4"] * 40)
        self.assertEqual(desk.run_all(lines=("text", "write -")[:1]), [desk.run("text")])
        self.assertEqual(history_of(desk), before)
        lines = [f"write #0{'a' * (number % 30 + 1)}" for number in range(40)]
        self.assertEqual(desk.run_all(lines), ["ok"] * 40)
        desk.undo()
        self.assertEqual(content_of(desk), before[0])

    def test_one_edit(self):
        desk = edited()
        before = history_of(desk)
        desk.run_all(("put c join |", "write #0a|0b c", "apply c", "drop a"))
        self.assertEqual([desk.names(), write_text(desk.text)], [["b", "c"], "#0a b c"])
        # It is another edit: what was taken back ahead of it cannot be done again.
        self.assertRaises(NothingToRedo, desk.redo)
        desk.undo()
        self.assertEqual(content_of(desk), before[0])
        desk.redo()
        self.assertEqual([desk.names(), write_text(desk.text)], [["b", "c"], "#0a b c"])

    def test_undo_and_redo_among_the_lines(self):
        desk = Desk()
        desk.run_all(["write #0a"])
        answers = desk.run_all(["write #0b", "write #0c", "undo", "text", "redo", "text", "undo", "write #0d"])
        self.assertEqual(answers, ["ok", "ok", "ok", "#0b", "ok", "#0c", "ok", "ok"])
        # Each of these edits is one by itself.
        found = [desk.run(line) for line in ("text", "undo", "text", "undo", "text", "undo", "text")]
        self.assertEqual(found, ["#0d", "ok", "#0b", "ok", "#0a", "ok", "-"])
        self.assertRaises(NothingToUndo, desk.undo)
        self.assertEqual(desk.run_all(["redo", "redo", "redo"]), ["ok"] * 3)
        self.assertRaises(NothingToRedo, desk.redo)
        self.assertEqual(desk.run("text"), "#0d")

    def test_a_copy_is_not_changed(self):
        desk = edited()
        twin = desk.copied()
        before = history_of(twin)
        desk.run_all(["write #0a", "undo", "undo", "put c -"])
        self.assertEqual(history_of(twin), before)
        twin.run_all(["redo", "write -"])
        self.assertEqual(write_text(desk.text), write_text(NOTE))


if __name__ == "__main__":
    unittest.main()
