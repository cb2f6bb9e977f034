"""[73], [74] and lateledger/steps.py."""

import unittest
from copy import deepcopy
from fractions import Fraction
from random import Random

from lateledger.faults import InvalidWord
from lateledger.ratios import Ratio
from lateledger.steps import STEPS, booked, entries_of, made
from tests.late import WORDS, entries_by_sums, plus, some_busy_facts, some_market, steps_by_sums
from tests.support import Checks, fraction, looks_like, strange_values, values_of_every_kind

R = Ratio
BALANCES = {("ann.coin", "coin"): R(4), ("ann.cover", "coin"): R(1, 2), ("ben.cover", "coin"): R(2), ("outside", "coin"): R(-13, 2)}
ORDERS = {"p": ("ann", {"oil": -1}, -4, 3), "q": ("ben", {"corn": 1, "oil": 1}, 9, 2), "r": ("ann", {"corn": -2}, 0, 1)}


class StepsTest(Checks, unittest.TestCase):
    def test_words(self):
        self.assert_same(STEPS, ("in", "round", "trades", "clear", "pay", "cover", "call", "fair"))
        for value in values_of_every_kind() + strange_values(*STEPS) + ["steps", "In", ("in",)]:
            if not looks_like(value, *STEPS):
                self.assert_keeps(InvalidWord, value, made, value, ({}, {}))
                self.assert_keeps(InvalidWord, value, entries_of, word=value, reads=({}, {}))

    def test_in(self):
        transfers = {"b": ("ann", "oil", 3), "a": ("ben", "coin", -2), "c": ("ann", "coin", 1)}
        reads = (BALANCES, transfers)
        self.assert_same(entries_of("in", reads), [
            [("ben.coin", "coin", R(-2)), ("outside", "coin", R(2))], [("ann.goods", "oil", R(3)), ("outside", "oil", R(-3))],
            [("ann.coin", "coin", R(1)), ("outside", "coin", R(-1))]])
        self.assert_same(made("in", reads), {
            ("ann.coin", "coin"): R(5), ("ann.cover", "coin"): R(1, 2), ("ann.goods", "oil"): R(3), ("ben.coin", "coin"): R(-2),
            ("ben.cover", "coin"): R(2), ("outside", "coin"): R(-11, 2), ("outside", "oil"): R(-3)})
        self.assert_same(made("in", (BALANCES, {})), BALANCES)
        self.assert_same(made("in", ({}, {"a": ("ann", "oil", 3), "b": ("ann", "oil", -3)})), {})

    def test_round(self):
        self.assert_same(made("round", ({},)), ({}, {}))
        self.assert_same(made(word="round", reads=(ORDERS,)), (
            {"p": R(2), "q": R(2), "r": R(1)}, {"corn": R(0), "oil": R(4)}))
        # An order that no other one meets is told with a fill of 0.
        self.assert_same(made("round", ({"p": ORDERS["p"]},)), ({"p": R(0)}, {"oil": R(4)}))
        self.assert_same(entries_of("round", (ORDERS,)), [])

    def test_trades(self):
        fills, prices = {"p": R(2), "q": R(2), "r": R(1)}, {"corn": R(0), "oil": R(4)}
        reads = (ORDERS, fills, prices, BALANCES)
        self.assert_same(entries_of("trades", reads), [
            [("ann.goods", "oil", R(-2)), ("ann.owed", "coin", R(8)), ("hall", "coin", R(-8)), ("hall", "oil", R(2))],
            [("ben.goods", "corn", R(2)), ("ben.goods", "oil", R(2)), ("ben.owed", "coin", R(-8)), ("hall", "coin", R(8)),
             ("hall", "corn", R(-2)), ("hall", "oil", R(-2))],
            [("ann.goods", "corn", R(-2)), ("hall", "corn", R(2))]])
        told = made("trades", reads)
        self.assert_same(told, {**{place: BALANCES[place] for place in sorted(BALANCES) if place[0] < "ann.goods"},
                                ("ann.goods", "corn"): R(-2), ("ann.goods", "oil"): R(-2), ("ann.owed", "coin"): R(8),
                                ("ben.cover", "coin"): R(2), ("ben.goods", "corn"): R(2), ("ben.goods", "oil"): R(2),
                                ("ben.owed", "coin"): R(-8), ("outside", "coin"): R(-13, 2)})
        # Fills of 0 make no entry, and parts of bundles part ones.
        reads = (ORDERS, {"p": R(1, 2), "q": R(0), "r": R(0)}, {"corn": R(1), "oil": R(1, 3)}, {})
        self.assert_same(entries_of("trades", reads), [
            [("ann.goods", "oil", R(-1, 2)), ("ann.owed", "coin", R(1, 6)), ("hall", "coin", R(-1, 6)), ("hall", "oil", R(1, 2))]])

    def test_clear(self):
        lines = [("ann", "ben", 2, 0), ("ben", "ann", 9, 0), ("ben", "cy", 5, 1)]
        owed = {"ann": R(3), "ben": R(-1), "cy": R(-2)}
        self.assert_same(made("clear", (owed, lines)), {("ann", "ben"): R(2), ("ben", "ann"): R(0), ("ben", "cy"): R(1)})
        self.assert_same(made("clear", ({house: R(0) for house in owed}, lines)), {line[:2]: R(0) for line in lines})
        self.assert_same(made("clear", (owed, [])), {})
        self.assert_same(made("clear", ({"ann": R(0)}, [])), {})
        self.assert_same(entries_of("clear", (owed, lines)), [])

    def test_pay(self):
        payments = {("ann", "ben"): R(2), ("ben", "ann"): R(0), ("ben", "cy"): R(1, 2)}
        self.assert_same(entries_of("pay", (payments, BALANCES)), [
            [("ann.coin", "coin", R(-2)), ("ann.owed", "coin", R(2)), ("ben.coin", "coin", R(2)), ("ben.owed", "coin", R(-2))],
            [("ben.coin", "coin", R(-1, 2)), ("ben.owed", "coin", R(1, 2)), ("cy.coin", "coin", R(1, 2)),
             ("cy.owed", "coin", R(-1, 2))]])
        told = made("pay", (payments, BALANCES))
        self.assertEqual([told["ann.coin", "coin"], told["ben.owed", "coin"], told["ben.coin", "coin"]], [R(2), R(-3, 2), R(3, 2)])
        # A debt that is paid is no longer there.
        self.assert_same(made("pay", ({("ann", "ben"): R(2)}, {("ann.owed", "coin"): R(-2), ("ben.owed", "coin"): R(2)})),
                         {("ann.coin", "coin"): R(-2), ("ben.coin", "coin"): R(2)})

    def test_cover(self):
        holdings = {"ann": {"corn": R(-2), "oil": R(1)}, "ben": {}, "cy": {"oil": R(3, 2)}}
        moves = [(None, "oil", 4), ("corn", None, 3)]
        self.assert_same(made("cover", (holdings, moves)), {"ann": R(10), "ben": R(0), "cy": R(6)})
        self.assert_same(made("cover", (holdings, moves[:1])), {"ann": "endless", "ben": R(0), "cy": R(6)})
        self.assert_same(made("cover", (holdings, [])), {"ann": "endless", "ben": R(0), "cy": "endless"})
        ring = [("oil", None, -5), *moves]
        self.assert_same(made("cover", (holdings, ring)), {"ann": "ring", "ben": "ring", "cy": "ring"})
        self.assert_same(made("cover", ({"ben": {}}, [])), {"ben": R(0)})
        self.assert_same(made("cover", ({"ben": {}}, ring)), {"ben": "ring"})
        # A price that must rise lets who holds the good gain surely: a cover below 0.
        self.assert_same(made("cover", ({"ann": {"oil": R(2)}}, [(None, "oil", -3)])), {"ann": R(-6)})
        self.assert_same(entries_of("cover", (holdings, moves)), [])

    def test_call(self):
        needs = {"ann": R(3), "ben": R(1), "cy": R(-5), "dot": "endless", "eve": "ring"}
        held = {**BALANCES, ("dot.cover", "coin"): R(1), ("eve.cover", "coin"): R(2)}
        self.assert_same(entries_of("call", (needs, held)), [
            [("ann.coin", "coin", R(-5, 2)), ("ann.cover", "coin", R(5, 2))],
            [("ben.coin", "coin", R(1)), ("ben.cover", "coin", R(-1))]])
        told = made("call", (needs, held))
        self.assertEqual({house: told.get((house + ".cover", "coin")) for house in needs},
                         {"ann": R(3), "ben": R(1), "cy": None, "dot": R(1), "eve": R(2)})
        self.assert_same(entries_of("call", ({"ann": R(-1)}, BALANCES)), [
            [("ann.coin", "coin", R(1, 2)), ("ann.cover", "coin", R(-1, 2))]])
        self.assert_same(entries_of("call", ({"ann": R(1, 2), "ben": R(2), "cy": R(0)}, BALANCES)), [])

    def test_fair(self):
        quotes = {"q": ({"oil": 1}, None, 0)}
        self.assert_same(made("fair", ({}, quotes)), True)
        self.assert_same(made("fair", ({"dry": {"oil": 1}}, quotes)), False)
        self.assert_same(made("fair", ({"dry": {"oil": 1}, "wet": {"oil": -1}}, quotes)), True)
        self.assert_same(made("fair", ({"dry": {"oil": 1}}, {})), True)
        self.assert_same(made("fair", ({"dry": {"oil": 2}}, {"q": ({"oil": 1}, 3, 3), "r": ({"oil": 2}, None, 5)})), False)
        self.assert_same(made("fair", ({"dry": {"oil": 2}}, {"q": ({"oil": 1}, 3, 3), "r": ({"oil": 2}, None, 6)})), True)
        self.assert_same(entries_of("fair", ({}, quotes)), [])

    def test_all_steps_of_some_days_by_their_sums(self):
        source = Random(721)
        words = {}
        for _ in range(100):
            houses, goods, days = some_market(source)
            told = steps_by_sums(houses, goods, days, some_busy_facts(source, houses, goods, days))
            for (_, word), (reads, makes, entries) in told.items():
                ahead = deepcopy(reads)
                self.assert_same(made(word, reads), makes)
                self.assert_same(entries_of(word, reads), entries)
                self.assertEqual(reads, ahead)
                self.assert_all_new(lambda: [made(word, reads), entries_of(word, reads), list(reads)][:2])
                words[word] = words.get(word, 0) + len(entries)
        self.assertGreater(min(words[word] for word in ("in", "trades", "pay", "call")), 20)
        self.assertEqual(list(words), WORDS)

    def test_entries_come_to_nought_and_are_sorted(self):
        source = Random(722)
        for _ in range(100):
            houses, goods, days = some_market(source)
            for (_, word), (reads, _, _) in steps_by_sums(houses, goods, days, some_busy_facts(source, houses, goods, days)).items():
                for entry in entries_of(word, reads):
                    self.assertEqual([line[:2] for line in entry], sorted({line[:2] for line in entry}))
                    self.assertNotIn(R(0), [line[2] for line in entry])
                    for unit in {line[1] for line in entry}:
                        self.assertEqual(sum((fraction(line[2]) for line in entry if line[1] == unit), Fraction(0)), 0)

    def test_booked(self):
        entries = [[("ann.coin", "coin", R(-4)), ("outside", "coin", R(4))], [("aa", "oil", R(1)), ("outside", "oil", R(-1))]]
        told = booked(BALANCES, entries)
        self.assert_same(told, {("aa", "oil"): R(1), ("ann.cover", "coin"): R(1, 2), ("ben.cover", "coin"): R(2),
                                ("outside", "coin"): R(-5, 2), ("outside", "oil"): R(-1)})
        self.assert_same(told, plus(BALANCES, entries))
        self.assert_same(booked(balances={}, entries=[]), {})
        self.assert_same(booked({("b", "coin"): R(1), ("a", "coin"): R(-1)}, []), {("a", "coin"): R(-1), ("b", "coin"): R(1)})
        self.assertEqual(len(BALANCES), 4)
        self.assertEqual(entries_by_sums("fair", ({}, {})), [])


if __name__ == "__main__":
    unittest.main()
