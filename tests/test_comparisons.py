"""Points [71], [72] and [73]: chains that do the same."""

import itertools
import unittest

from reflows.chains import Chain, read_chain
from reflows.comparisons import alike, exchange, fewest_steps, idle_steps, settles, swallows
from reflows.errors import InvalidChain, InvalidStock
from reflows.machines import Machine
from reflows.stocks import Stock
from tests.plain import (
    LARGE_STOCK, LARGE_WRITINGS, NO_CHAINS, NO_STOCKS, STOCKS, check_arguments, check_told, check_wrong_arguments, done,
    few_texts, small_cases, some_texts,
)

STOCK = Stock(["#0", " ", "/0", "|0"], shortest=1, longest=4)


class ExampleTest(unittest.TestCase):
    def test_alike_and_settles(self):
        found = [len(alike(read_chain("wrap 6 same; wrap 4 same"), read_chain("wrap 4 same"), STOCK)),
                 settles(read_chain("group 2"), STOCK)]
        self.assertEqual(found, [3, None])

    def test_steps(self):
        found = [idle_steps(read_chain("join /; wrap 5 same; wrap 6 same; turn / |"), STOCK),
                 str(fewest_steps(read_chain("shift 1; align #|/ 2"), STOCK))]
        self.assertEqual(found, [[2], "align #|/ 2"])

    def test_swallows_and_exchange(self):
        found = [swallows(read_chain("join /; wrap 5 same"), read_chain("wrap 3 same"), STOCK),
                 len(exchange(read_chain("join |"), read_chain("wrap 2 same"), STOCK))]
        self.assertEqual(found, [None, 2])


class PlainTest(unittest.TestCase):
    def check_parting(self, told, left, right, stock):
        """Check what is told of two rows of writings."""
        check_told(self, told, stock, lambda text: done(left, text) != done(right, text), (left, right, str(stock)))

    def test_alike(self):
        for one, other, stock in small_cases(120, 2):
            told = alike(read_chain(one), read_chain(other), stock)
            self.check_parting(told, [one], [other], stock)

    def test_alike_chains_of_other_steps(self):
        pairs = [
            ("-", "shift 0"), ("-", "wrap 12 same"), ("join |; join /", "join |/"), ("shift 1; shift 2", "shift 3"),
            ("turn | /; turn / |", "turn / |"), ("group 2", "group 2; group 3"), ("hang 0", "hang 0; hang 0"),
            ("align #|/ 1", "align # 1; align | 1; align / 1"), ("shift 3", "align #|/ 3"), ("alone 0", "group 1"),
            ("wrap 2 same", "alone 0"), ("wrap 3 same", "wrap 3 same; wrap 3 same"), ("wrap 3 same", "wrap 3 1"),
            ("shift -3; shift 1", "align #|/ 1"), ("wrap 3 same; hang 1", "hang 1; wrap 3 same"),
        ]
        for (one, other), stock in itertools.product(pairs, STOCKS):
            self.check_parting(alike(read_chain(one), read_chain(other), stock), [one], [other], stock)
            self.check_parting(alike(read_chain(other), read_chain(one), stock), [one], [other], stock)

    def test_settles(self):
        for one, stock in small_cases(150, 1):
            self.check_parting(settles(read_chain(one), stock), [one, one], [one], stock)

    def test_exchange(self):
        for one, other, stock in small_cases(80, 2):
            told = exchange(read_chain(one), read_chain(other), stock)
            self.check_parting(told, [one, other], [other, one], stock)

    def test_swallows(self):
        for one, other, stock in small_cases(81, 2):
            told = swallows(read_chain(one), read_chain(other), stock)
            self.check_parting(told, [other, one], [one], stock)

    def test_swallows_asks_in_its_order(self):
        join, wrap = read_chain("join /"), read_chain("wrap 3 same")
        stock = Stock(["#0", " ", "/0"], longest=2)
        self.assertEqual([swallows(join, wrap, stock), len(swallows(wrap, join, stock))], [None, 2])
        self.assertEqual([swallows(read_chain("align / 1"), read_chain("align / 2"), stock)], [None])
        self.assertEqual([len(swallows(read_chain("align / 1"), join, stock))], [2])


class StepsTest(unittest.TestCase):
    def same(self, one, other, stock):
        """Tell whether two writings make the same of all texts with few words."""
        return all([done([one], text) == done([other], text) for text in few_texts(stock, 2000)])

    def parts(self, writing):
        """Return the writings that are left if any steps are left out, by the number of their steps."""
        steps = [] if writing == "-" else writing.split("; ")
        return {many: ["; ".join(row) or "-" for row in itertools.combinations(steps, many)]
                for many in range(len(steps) + 1)}

    def test_steps_of_many_chains(self):
        for writing, stock in small_cases(100, 1):
            chain = read_chain(writing)
            expected = [index for index in range(len(chain)) if self.same(writing, str(chain.without(index)), stock)]
            self.assertEqual(idle_steps(chain, stock), expected, (writing, str(stock)))
            self.check_fewest(writing, stock)

    def check_fewest(self, writing, stock):
        found = fewest_steps(read_chain(writing), stock)
        self.assertIs(found.__class__, Chain)
        self.assertTrue(self.same(str(found), writing, stock))
        parts = self.parts(writing)
        self.assertIn(str(found), parts[len(found)])
        for many in range(len(found)):
            for part in parts[many]:
                self.assertFalse(self.same(part, writing, stock), (writing, part, str(stock)))

    def test_steps_that_only_together_can_be_left_out(self):
        stock = Stock(["#0", "#1", "|2"], longest=1)
        for writing, idle, fewest in [
            ("shift 1; shift -1", [], "-"), ("turn | /; turn / |", [0], "-"), ("shift 1; shift 1; shift 1", [], None),
            ("shift 2; align #|/ 1; shift -1; shift 1", [0], "align #|/ 1"), ("-", [], "-"),
        ]:
            self.assertEqual(idle_steps(read_chain(writing), stock), idle, writing)
            self.assertEqual(str(fewest_steps(read_chain(writing), stock)), fewest or writing)

    def test_one_step_behind_two_that_do_the_same(self):
        stock = Stock(["#1", " "], longest=1)
        chain = read_chain("shift 1; shift 1; shift 3")
        self.assertEqual(str(fewest_steps(chain, stock)), "shift 3")
        self.check_fewest("shift 1; shift 1; shift 3", stock)

    def test_a_step_that_stands_twice(self):
        stock = Stock(["#0", " ", "|0"], longest=2)
        self.assertEqual(idle_steps(read_chain("join |; join |"), stock), [0, 1])
        self.assertEqual(str(fewest_steps(read_chain("join |; join |"), stock)), "join |")
        # The first one breaks "a a a" behind a hard break elsewhere than the last one breaks the joined line.
        self.assertEqual(idle_steps(read_chain("wrap 3 same; join |; wrap 3 same"), stock), [])
        self.assertEqual(idle_steps(read_chain("wrap 3 same; join |/; wrap 3 same"), stock), [0])
        self.assertEqual(idle_steps(read_chain("group 2; group 2; group 2; group 2"), stock), [0, 1, 2, 3])
        self.assertEqual(str(fewest_steps(read_chain("group 2; group 2; group 2; group 2"), stock)), "group 2")

    def test_steps_that_the_stock_makes_idle(self):
        chain = read_chain("join |; wrap 6 same; shift 1; hang 0")
        self.assertEqual(idle_steps(chain, Stock(["#0"], longest=4)), [0, 1, 3])
        self.assertEqual(str(fewest_steps(chain, Stock(["#0"], longest=4))), "shift 1")
        self.assertEqual(idle_steps(chain, Stock(["#3"], longest=4)), [0, 1, 2, 3])
        self.assertEqual(str(fewest_steps(chain, Stock(["#3"], longest=4))), "-")

    def test_a_chain_without_steps(self):
        for stock in STOCKS:
            self.assertEqual(idle_steps(Chain(), stock), [])
            self.assertEqual(fewest_steps(Chain(), stock), Chain())


class EdgeTest(unittest.TestCase):
    def test_chains_without_steps(self):
        for stock in STOCKS:
            for chain in (Chain(), read_chain("wrap 3 same"), read_chain("join |/; shift 1")):
                self.assertEqual(alike(Chain(), Chain(), stock), None)
                self.assertEqual(settles(Chain(), stock), None)
                self.assertEqual([exchange(Chain(), chain, stock), exchange(chain, Chain(), stock)], [None, None])
                self.assertEqual(swallows(chain, Chain(), stock), None)
                told = [alike(chain, Chain(), stock), alike(Chain(), chain, stock), swallows(Chain(), chain, stock)]
                lengths = [text if text is None else len(text) for text in told]
                self.assertEqual(lengths, [lengths[0]] * 3)

    def test_chains_that_have_more_steps_together_than_one_can_have(self):
        one, other = "shift 1; wrap 3 same; hang 1; shift -1", "join /; shift 2; align # 1; turn | /"
        for stock in STOCKS:
            found = exchange(read_chain(one), read_chain(other), stock)
            check_told(self, found, stock, lambda text: done([one, other], text) != done([other, one], text))
            found = swallows(read_chain(one), read_chain(other), stock)
            check_told(self, found, stock, lambda text: done([other, one], text) != done([one], text))
            for part in (one, other):
                found = settles(read_chain(part), stock)
                check_told(self, found, stock, lambda text: done([part, part], text) != done([part], text))

    def test_marks_between_that_are_not_in_the_stock(self):
        stock = Stock(["#0", " "], longest=2)
        self.assertEqual(swallows(read_chain("join |/"), read_chain("wrap 3 2; turn / |"), stock), None)
        self.assertEqual(len(exchange(read_chain("wrap 3 2"), read_chain("align / 1"), stock)), 2)
        self.assertEqual(len(settles(read_chain("shift 1; wrap 3 same"), stock)), 1)
        self.assertEqual(exchange(read_chain("turn | #"), read_chain("group 2; turn / /"), stock), None)

    def test_texts_of_several_words(self):
        stock = Stock(["#0", " "], longest=1)
        self.assertEqual(alike(read_chain("group 8"), read_chain("group 9"), stock),
                         [("#0", "a")] + [(" ", "a")] * 8)
        self.assertEqual(len(alike(read_chain("group 3; join /; group 4"), read_chain("group 4; join /; group 3"),
                                   Stock(["#0", " "]))), 4)
        self.assertEqual(len(alike(Chain(), read_chain("wrap 8 same"), stock)), 5)

    def test_alike_exactly_if_the_least_machines_are_the_same(self):
        for one, other, stock in small_cases(150, 2):
            one, other = read_chain(one), read_chain(other)
            equal = Machine(one, stock) == Machine(other, stock)
            self.assertIs(alike(one, other, stock) is None, equal)
            self.assertEqual(alike(one, one, stock), None)

    def test_large_chains_and_stocks(self):
        # Within [5], but with many states: each of these answers must come in a short time.
        expected = [[None, 6, None, 2], [2, 6, 2, 2], [2, 6, 2, 2], [None, None, 2, 2]]
        for writing, lengths in zip(LARGE_WRITINGS, expected):
            chain = read_chain(writing)
            told = [settles(chain, LARGE_STOCK)]
            self.check_large(told[0], [writing, writing], [writing])
            for other in ("group 5", "join |/; group 7", "wrap 6 same; join |"):
                told.append(exchange(chain, read_chain(other), LARGE_STOCK))
                self.check_large(told[-1], [writing, other], [other, writing])
            self.assertEqual([text if text is None else len(text) for text in told], lengths)
            self.assertEqual(alike(chain, read_chain(writing), LARGE_STOCK), None)

    def check_large(self, told, left, right):
        """Check what is told of two rows of writings and the large stock, with some long texts if it is None."""
        if told is not None:
            self.assertNotEqual(done(left, told), done(right, told))
        else:
            for text in some_texts(LARGE_STOCK, 20, 40):
                self.assertEqual(done(left, text), done(right, text))

    def test_steps_of_large_chains(self):
        fewest = ["group 9; join |; group 9", *LARGE_WRITINGS[1:3], "join |/; wrap 7 same; hang 1"]
        for writing, steps, shorter in zip(LARGE_WRITINGS, [[2], [], [], [0]], fewest):
            self.assertEqual(idle_steps(read_chain(writing), LARGE_STOCK), steps, writing)
            self.assertEqual(str(fewest_steps(read_chain(writing), LARGE_STOCK)), shorter)


class WrongTest(unittest.TestCase):
    def test_wrong_arguments(self):
        pair = {"one": Chain(), "other": read_chain("group 2"), "stock": STOCK}
        alone = {"chain": read_chain("wrap 3 same"), "stock": STOCK}
        chains, stocks = (InvalidChain, NO_CHAINS), (InvalidStock, NO_STOCKS)
        for call in (alike, exchange, swallows):
            check_wrong_arguments(self, call, pair, {"one": chains, "other": chains, "stock": stocks})
        for call in (settles, idle_steps, fewest_steps):
            check_wrong_arguments(self, call, alone, {"chain": chains, "stock": stocks})

    def test_arguments_by_position_and_by_name(self):
        one, other = read_chain("wrap 3 same"), read_chain("join /")
        for call in (alike, exchange, swallows):
            self.assertEqual(call(one, other, STOCK), call(stock=STOCK, other=other, one=one))
            check_arguments(self, call, one, other, STOCK)
        for call in (settles, idle_steps, fewest_steps):
            self.assertEqual(call(other, STOCK), call(stock=STOCK, chain=other))
        check_arguments(self, settles, read_chain("shift 1"), STOCK)
        check_arguments(self, idle_steps, read_chain("join /; join /"), STOCK)
        self.assertEqual(fewest_steps(one, STOCK), one)


if __name__ == "__main__":
    unittest.main()
