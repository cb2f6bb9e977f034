"""[64], [65], [66] and lateledger/spans.py."""

import unittest
from random import Random

from lateledger.best import worth
from lateledger.errors import InvalidBundle, InvalidNumber, InvalidQuotes, InvalidSide, NoEnd, NotFair, TooMany
from lateledger.futures import Futures
from lateledger.quotes import are_fair, fair_weights
from lateledger.ratios import Ratio
from lateledger.spans import cover_cost, end_paper, gain_at, is_cover, is_end_paper, is_needless, is_way, lean, span, way
from lateledger.systems import System
from tests.pricing import are_fair_by_sums, covers, ends_by_sums, gains_surely, outcome_by_sums, rises_by_sums
from tests.pricing import sides_by_sums, some_bundle, some_futures, some_quotes, worth_by_sums
from tests.support import GREAT, Checks, fraction, values_of_every_kind
from tests.test_quotes import NINE, QUOTES, TWO, WRONG

BOTH = {"corn": 1, "oil": 1}
UNFAIR = [({"corn": 1}, 4, 3)]


def turned(bundle):
    return {good: -number for good, number in bundle.items()}


def worths_of(futures, bundle, sign=1):
    return [sign * worth_by_sums(futures, bundle, name) for name in futures.names()]


def is_kept_anyway(futures, quotes, side):
    """Whether a side is needless, by the greatest value of all weights that keep the others."""
    rows = []
    for at, word in sides_by_sums(quotes):
        bundle, bid, ask = quotes[at]
        if (at, word) != side:
            rows.append((worths_of(futures, bundle), "at most", ask) if word == "ask"
                        else (worths_of(futures, bundle, -1), "at most", Ratio(0) - bid))
    bundle, bid, ask = quotes[side[0]]
    system = System([(0, None)] * len(futures), rows)
    try:
        if side[1] == "ask":
            return worth(system, [worths_of(futures, bundle)])[0].is_at_most(ask)
        return worth(system, [worths_of(futures, bundle, -1)])[0].is_at_most(Ratio(0) - bid)
    except NoEnd:
        return False


class SpansTest(Checks, unittest.TestCase):
    def fair_pairs(self, seed, many, most=4):
        source, found = Random(seed), 0
        while found < many:
            futures = some_futures(source, most)
            quotes = some_quotes(source, futures, most)
            if are_fair(futures, quotes):
                found += 1
                yield source, futures, quotes

    def check_price(self, futures, quotes, bundle, price, is_fair):
        gain = gain_at(futures, quotes, bundle, price)
        more = quotes + [(bundle, price, price)]
        self.assert_bool(gain is None, is_fair)
        if is_fair:
            if len(more) <= 8:
                self.assertTrue(are_fair_by_sums(futures, more, fair_weights(futures, more)))
        else:
            self.assertTrue(gains_surely(futures, more, gain))
            self.assertTrue(all(number.__class__ is Ratio for part in gain for number in part))

    def check_end(self, futures, quotes, bundle, high):
        paper, rising = end_paper(futures, quotes, bundle), way(futures, quotes, bundle)
        self.assertEqual((paper is None) + (rising is None), 1)
        self.assert_same(cover_cost(futures, quotes, bundle), high)
        self.assert_bool(high is None, paper is None)
        if paper is not None:
            self.assertTrue(ends_by_sums(futures, quotes, bundle, paper))
            self.assert_bool(is_end_paper(futures, quotes, bundle, paper), True)
            self.assert_bool(is_cover(futures, quotes, bundle, paper[0]), True)
            self.assertEqual(-outcome_by_sums(futures, quotes, paper[0])[0], fraction(high))
            self.assertEqual([part.__class__ for part in paper], [list, dict])
            numbers = [number for part in paper[0] for number in part] + list(paper[1].values())
            self.assertTrue(all(number.__class__ is Ratio for number in numbers))
        else:
            self.assertTrue(rises_by_sums(futures, quotes, bundle, rising))
            self.assert_bool(is_way(futures, quotes, bundle, rising), True)
            self.assertTrue(all(number.__class__ is Ratio for number in rising.values()))

    def test_spans(self):
        missing, shut = 0, 0
        for source, futures, quotes in self.fair_pairs(451, 100):
            bundle = some_bundle(source)
            told = span(futures, quotes, bundle)
            (low, is_low), (high, is_high) = told
            self.assert_same(told, ((low, is_low), (high, is_high)))
            self.check_end(futures, quotes, bundle, high)
            self.check_end(futures, quotes, turned(bundle), None if low is None else -low)
            for end, is_fair, sign in ((low, is_low, -1), (high, is_high, 1)):
                if end is None:
                    missing += 1
                    self.assert_bool(is_fair, False)
                    self.check_price(futures, quotes, bundle, sign * 1000, True)
                else:
                    self.check_price(futures, quotes, bundle, end, is_fair)
                    self.check_price(futures, quotes, bundle, end + Ratio(sign, 7), False)
            if low is not None and high is not None:
                self.assertTrue(low.is_at_most(high))
                if low == high:
                    shut += 1
                    self.assert_bool(is_low and is_high, True)
                else:
                    self.check_price(futures, quotes, bundle, (low + high).over(2), True)
        self.assertGreater(min(missing, shut), 5)

    def test_eight_futures_and_eight_quotes(self):
        for source, futures, quotes in self.fair_pairs(452, 4, 8):
            quotes = (quotes + [({"corn": 0}, None, None)] * 8)[:8]
            bundle = some_bundle(source)
            (low, is_low), (high, is_high) = span(futures, quotes, bundle)
            for end, is_fair in ((low, is_low), (high, is_high)):
                if end is not None:
                    self.check_price(futures, quotes, bundle, end, is_fair)

    def test_edges(self):
        self.assert_same(span(TWO, [], {"corn": 1}), ((Ratio(0), False), (None, False)))
        self.assert_same(span(TWO, [], {"corn": -1}), ((None, False), (Ratio(0), False)))
        self.assert_same(span(TWO, [], {"corn": 1, "oil": -3}), ((None, False), (None, False)))
        for bundle in ({}, {"rye": 5}, {"corn": 0}):
            self.assert_same(span(TWO, QUOTES, bundle), ((Ratio(0), True), (Ratio(0), True)))
        self.assert_same(span(TWO, [({"corn": 1}, 3, 3)], {"corn": 2}), ((Ratio(6), True), (Ratio(6), True)))
        self.assert_same(end_paper(TWO, [], {"corn": -1})[0], [])

    def test_needless_sides_and_lean_quotes(self):
        counts = [0, 0]
        for _, futures, quotes in self.fair_pairs(453, 60):
            for side in sides_by_sums(quotes):
                wanted = is_kept_anyway(futures, quotes, side)
                counts[wanted] += 1
                self.assert_bool(is_needless(futures, quotes, side), wanted)
            left = list(quotes)
            for at, word in reversed(sides_by_sums(quotes)):
                if is_kept_anyway(futures, left, (at, word)):
                    bundle, bid, ask = left[at]
                    left[at] = (bundle, bid, None) if word == "ask" else (bundle, None, ask)
            wanted = [({good: bundle[good] for good in sorted(bundle) if bundle[good] != 0}, bid, ask) for bundle, bid, ask in left]
            told = lean(futures, quotes)
            self.assert_same(told, wanted)
            self.assertTrue(are_fair(futures, told))
            for bundle in ({"corn": 1}, {"oil": 1, "tea": -1}):
                self.assertEqual(span(futures, told, bundle), span(futures, quotes, bundle))
        self.assertGreater(min(counts), 20)
        self.assert_same(lean(TWO, [({"oil": 1, "corn": 0}, 0, 2)]), [({"oil": 1}, None, Ratio(2))])

    def test_the_last_side_first(self):
        told = lean(TWO, [({"corn": 1}, 1, 4), ({"corn": 2}, 2, 8)])
        self.assert_same(told, [({"corn": 1}, Ratio(1), Ratio(4)), ({"corn": 2}, None, None)])

    def calls(self):
        """All functions, with quotes and a bundle; those that judge any value are told apart."""
        strict = [span, cover_cost, end_paper, way, lambda futures, quotes, bundle: gain_at(futures, quotes, bundle, 1)]
        judges = [lambda futures, quotes, bundle, call=call: call(futures, quotes, bundle, None)
                  for call in (is_cover, is_end_paper, is_way)]
        return strict, judges

    def test_errors_in_their_sequence(self):
        strict, judges = self.calls()
        others = [lambda futures, quotes, bundle: is_needless(futures, quotes, (0, "ask")),
                  lambda futures, quotes, bundle: lean(futures, quotes)]
        for value in values_of_every_kind() + WRONG:
            for call in strict + judges + others:
                if not isinstance(value, (list, tuple)):
                    self.assert_raises(InvalidQuotes, {"position": None}, call, TWO, value, None)
                self.assert_raises(InvalidQuotes, {"position": 1}, call, TWO, [UNFAIR[0], value], None)
                self.assert_raises(InvalidQuotes, {"position": 9}, call, TWO, [*NINE, value], None)
            for call in strict + judges:
                if value.__class__ is not dict or value not in ({}, {"a": 1}, {"tea": 0}):
                    for quotes in (QUOTES, NINE, UNFAIR, [*NINE, UNFAIR[0]]):
                        self.assert_keeps(InvalidBundle, value, call, TWO, quotes, value)
        many = {"what": "quotes", "allowed": 8}
        for call in strict + judges:
            self.assert_raises(TooMany, many, call, TWO, [*NINE, UNFAIR[0]], BOTH)
        for call in strict:
            self.assert_raises(NotFair, {}, call, TWO, UNFAIR, BOTH)
        for call in judges:
            self.assert_bool(call(TWO, UNFAIR, BOTH), False)
        self.assert_raises(NotFair, {}, lean, TWO, UNFAIR)
        self.assert_raises(TooMany, many, lean, TWO, [*NINE, UNFAIR[0]])
        self.assert_raises(NotFair, {}, is_needless, TWO, UNFAIR, (0, "ask"))
        self.assert_raises(TooMany, many, is_needless, TWO, [*NINE, UNFAIR[0]], (9, "ask"))

    def test_wrong_prices_and_sides(self):
        for value in values_of_every_kind():
            if value.__class__ not in (int, Ratio):
                for quotes in (QUOTES, UNFAIR, NINE):
                    self.assert_keeps(InvalidNumber, value, gain_at, futures=TWO, quotes=quotes, bundle=BOTH, price=value)
            for quotes in (QUOTES, UNFAIR, NINE):
                self.assert_keeps(InvalidSide, value, is_needless, TWO, quotes, value)
        for wrong in ((1, "bid"), (2, "ask"), (-1, "ask"), (True, "ask"), (False, "ask"), [0, "ask"], (0, "asks"), (0, None),
                      (0, "ask", 0), (Ratio(0), "ask"), ("ask", 0)):
            self.assert_keeps(InvalidSide, wrong, is_needless, futures=TWO, quotes=QUOTES, side=wrong)
        self.assert_bool(is_needless(TWO, QUOTES, (1, "ask")), False)

    def test_any_papers(self):
        deal, weights = [(1, 0), (1, 0)], {"dry": Ratio(1, 2), "wet": Ratio(1, 2)}
        self.assert_bool(is_cover(TWO, QUOTES, BOTH, deal), True)
        self.assert_bool(is_cover(TWO, QUOTES, BOTH, [(2, 0), (Ratio(7, 2), 0)]), True)
        self.assert_bool(is_end_paper(TWO, QUOTES, BOTH, (tuple(deal), weights)), True)
        rising = {"dry": 1, "wet": 0}
        self.assert_bool(is_way(TWO, [({"corn": 1}, 3, None)], BOTH, rising), True)
        for value in values_of_every_kind():
            self.assert_bool(is_cover(TWO, QUOTES, BOTH, value), False)
            self.assert_bool(is_end_paper(TWO, QUOTES, BOTH, value), False)
            self.assert_bool(is_end_paper(TWO, QUOTES, BOTH, (value, weights)), False)
            self.assert_bool(is_end_paper(TWO, QUOTES, BOTH, (deal, value)), False)
            self.assert_bool(is_way(TWO, [], BOTH, value), False)
        for wrong in ([(1, 0)], [(1, 0), (1, 1)], [(1, 0), (True, 0)], [(1, 0), (0, 0)], [(1, 0), (-1, 0)], [[1, 0], [1, 0]]):
            self.assert_bool(is_cover(TWO, QUOTES, BOTH, wrong), False)
            self.assert_bool(is_end_paper(TWO, QUOTES, BOTH, (wrong, weights)), False)
        for wrong in ({"dry": 1, "wet": 0}, {"dry": Ratio(1, 2)}, {**weights, "fog": 0}, {"dry": -1, "wet": 3},
                      {"dry": Ratio(1, 2), "wet": True}):
            self.assert_bool(is_end_paper(TWO, QUOTES, BOTH, (deal, wrong)), False)
        self.assert_bool(is_end_paper(TWO, QUOTES, BOTH, [deal, weights]), False)
        self.assert_bool(is_end_paper(TWO, QUOTES, BOTH, ([(2, 0), (1, 0)], weights)), False)
        for wrong in ({"dry": 0, "wet": 0}, {"dry": -1, "wet": 9}, {"dry": 1}, {"dry": 1, "wet": False}):
            self.assert_bool(is_way(TWO, [({"corn": 1}, 3, None)], BOTH, wrong), False)
        self.assert_bool(is_way(TWO, [({"corn": 1}, None, 3)], BOTH, rising), False)
        self.assert_bool(is_way(TWO, [({"corn": -1}, 3, None)], BOTH, rising), False)

    def test_judges_by_their_sums(self):
        source = Random(454)
        for _ in range(100):
            futures = some_futures(source, 2)
            quotes, bundle = some_quotes(source, futures, 3), some_bundle(source)
            deal = [(0 if ask is None else source.randint(0, 2), 0 if bid is None else source.randint(0, 2))
                    for _, bid, ask in quotes]
            weights = {name: Ratio(source.randint(-1, 5), source.randint(1, 2)) for name in futures.names()}
            self.assert_bool(is_cover(futures, quotes, bundle, deal), covers(futures, quotes, bundle, deal))
            self.assert_bool(is_way(futures, quotes, bundle, weights), rises_by_sums(futures, quotes, bundle, weights))
            told = (deal, weights)
            self.assert_bool(is_end_paper(futures, quotes, bundle, told), ends_by_sums(futures, quotes, bundle, told))

    def test_great_numbers(self):
        source = Random(455)
        goods, names = ["a", "b", "c", "d"], list("abcdefgh")
        for many in (4, 8):
            futures = Futures({name: {good: source.randint(0, GREAT) for good in goods} for name in names})
            quotes = []
            for _ in range(many):
                bundle = {good: source.randint(-GREAT, GREAT) for good in goods}
                value = sum(futures.all_worths(bundle).values())
                quotes.append((bundle, value - Ratio(GREAT, source.randint(1, GREAT)), value + Ratio(1, source.randint(1, GREAT))))
            for bundle in ({"a": 1}, {good: source.randint(-GREAT, GREAT) for good in goods}):
                (low, _), (high, _) = span(futures, quotes, bundle)
                self.check_end(futures, quotes, bundle, high)
                self.check_end(futures, quotes, turned(bundle), None if low is None else -low)
                for end in (low, high):
                    if end is not None:
                        self.assertTrue(end == low or gain_at(futures, quotes, bundle, end + 1))

    def test_told_values_are_new(self):
        self.assert_all_new(lambda: [end_paper(TWO, QUOTES, BOTH), way(TWO, [], BOTH), lean(TWO, QUOTES),
                                     gain_at(TWO, QUOTES, BOTH, 9)])
        lean(TWO, QUOTES)[0][0].clear()
        end_paper(TWO, QUOTES, BOTH)[1].clear()
        self.assertEqual(QUOTES, [({"corn": 1}, 2, 3), ({"oil": 1}, None, 2)])
        self.assertEqual(lean(TWO, QUOTES)[0][0], {"corn": 1})


if __name__ == "__main__":
    unittest.main()
