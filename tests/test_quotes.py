"""[62], [63] and lateledger/quotes.py."""

import unittest
from random import Random

from lateledger.errors import InvalidBundle, InvalidDeal, InvalidQuotes, InvalidWeights, TooMany
from lateledger.futures import Futures
from lateledger.quotes import are_fair, are_fair_weights, broken_sides, fair_weights, is_quote, is_sure_gain, outcome
from lateledger.quotes import sides, sure_gain, value_of
from lateledger.ratios import Ratio
from tests.market import ratio, ratios
from tests.pricing import are_fair_by_sums, broken_by_sums, gains_surely, is_deal_by_sums, outcome_by_sums, sides_by_sums
from tests.pricing import some_bundle, some_futures, some_quotes, value_by_sums
from tests.support import GREAT, Checks, values_of_every_kind

TWO = Futures({"dry": {"corn": 4, "oil": 1}, "wet": {"corn": 2, "oil": 3}})
QUOTES = [({"corn": 1}, 2, 3), ({"oil": 1}, None, 2)]
WRONG = [({"corn": 1}, 2), ({"corn": 1}, 2, 3, 4), [{"corn": 1}, 2, 3], ({"coin": 1}, 2, 3), ({"corn": True}, 2, 3),
         ({"corn": 1}, True, 3), ({"corn": 1}, 2, False), ({"corn": 1}, "2", 3), (None, 2, 3), ([("corn", 1)], 2, 3)]
NINE = [({"corn": 1}, None, None)] * 9


class QuotesTest(Checks, unittest.TestCase):
    def check_quotes(self, futures, quotes):
        weights, gain = fair_weights(futures, quotes), sure_gain(futures, quotes)
        self.assert_bool(are_fair(futures, quotes), weights is not None)
        self.assertEqual((weights is None) + (gain is None), 1)
        if weights is not None:
            self.assertTrue(are_fair_by_sums(futures, quotes, weights))
            self.assert_bool(are_fair_weights(futures, quotes, weights), True)
            self.assertTrue(all(number.__class__ is Ratio for number in weights.values()))
            self.assert_same(broken_sides(futures, quotes, weights), [])
        else:
            self.assertTrue(gains_surely(futures, quotes, gain))
            self.assert_bool(is_sure_gain(futures, quotes, gain), True)
            self.assertEqual(gain.__class__, list)
            self.assertTrue(all(part.__class__ is tuple and [one.__class__ for one in part] == [Ratio, Ratio] for part in gain))
        return weights is not None

    def test_just_one_of_fair_weights_and_a_sure_gain(self):
        source, fair = Random(441), 0
        for _ in range(250):
            futures = some_futures(source)
            fair += self.check_quotes(futures, some_quotes(source, futures))
        self.assertTrue(60 < fair < 220, fair)
        for _ in range(6):
            futures = some_futures(source, 8)
            self.check_quotes(futures, some_quotes(source, futures, 8, 6))

    def test_edges(self):
        self.assert_bool(self.check_quotes(TWO, []), True)
        self.assert_bool(self.check_quotes(TWO, [({"corn": 1}, None, None)] * 8), True)
        self.assert_bool(self.check_quotes(TWO, [({"corn": 1}, 3, 3), ({"oil": 1}, None, 0)]), False)
        self.assert_bool(self.check_quotes(TWO, [({"corn": 1}, 4, 3)]), False)
        self.assert_bool(self.check_quotes(TWO, [({"corn": 1}, 3, 3)]), True)
        self.assert_bool(self.check_quotes(TWO, [({"corn": 1}, None, 0)]), False)
        self.assert_bool(self.check_quotes(TWO, [({"corn": 1}, 0, None)]), True)
        for bid, ask, is_fair in ((0, 0, True), (-1, 1, True), (1, None, False), (None, -1, False), (None, 0, True)):
            for bundle in ({}, {"corn": 0}, {"rye": 3}):
                self.assert_bool(self.check_quotes(TWO, [(bundle, bid, ask)]), is_fair)
        self.assert_bool(self.check_quotes(Futures({"dry": {"corn": 1}, "wet": {}}), [({"corn": 1}, None, 0)]), False)
        self.assert_bool(self.check_quotes(Futures({"dry": {}}), [({"corn": 1}, 0, 0)]), True)

    def test_sums(self):
        source = Random(442)
        for _ in range(80):
            futures = some_futures(source)
            quotes = some_quotes(source, futures)
            self.assert_same(sides(quotes), sides_by_sums(quotes))
            deal = [(0 if ask is None else Ratio(source.randint(0, 4), 2), 0 if bid is None else source.randint(0, 2))
                    for _, bid, ask in quotes]
            coin, worths = outcome_by_sums(futures, quotes, deal)
            self.assert_same(outcome(futures, quotes, deal), (ratio(coin), ratios(worths)))
            self.assert_bool(is_sure_gain(futures, quotes, deal), gains_surely(futures, quotes, deal))
            weights = {name: Ratio(source.randint(-1, 6), source.randint(1, 2)) for name in futures.names()}
            self.assert_same(broken_sides(futures, quotes, weights), broken_by_sums(futures, quotes, weights))
            self.assert_bool(are_fair_weights(futures, quotes, weights), are_fair_by_sums(futures, quotes, weights))
            bundle = some_bundle(source)
            self.assert_same(value_of(futures, weights, bundle), ratio(value_by_sums(futures, weights, bundle) + 0))

    def test_wrong_quotes(self):
        right = ({"corn": 1}, None, Ratio(1, 2))
        self.assert_bool(is_quote(right), True)
        self.assert_bool(is_quote(({}, None, None)), True)
        weights = {"dry": 1, "wet": 1}
        for value in values_of_every_kind() + WRONG:
            self.assert_bool(is_quote(value), False)
            position = None if not isinstance(value, (list, tuple)) else 0
            calls = [lambda quotes: sides(quotes), lambda quotes: outcome(TWO, quotes, None), lambda quotes: are_fair(TWO, quotes),
                     lambda quotes: broken_sides(TWO, quotes, None), lambda quotes: fair_weights(TWO, quotes),
                     lambda quotes: sure_gain(TWO, quotes), lambda quotes: are_fair_weights(TWO, quotes, weights),
                     lambda quotes: is_sure_gain(TWO, quotes, [])]
            for call in calls:
                if not isinstance(value, (list, tuple)):
                    self.assert_raises(InvalidQuotes, {"position": position}, call, value)
                self.assert_raises(InvalidQuotes, {"position": 1}, call, [right, value, value])
                self.assert_raises(InvalidQuotes, {"position": 9}, call, (*NINE, value))

    def test_too_many_quotes_behind_all_others(self):
        many = {"what": "quotes", "allowed": 8}
        deal, weights = [(0, 0)] * 9, {"dry": 1, "wet": 1}
        for call in (lambda: sides(NINE), lambda: outcome(TWO, NINE, deal), lambda: broken_sides(TWO, NINE, weights),
                     lambda: are_fair(TWO, NINE), lambda: fair_weights(TWO, NINE), lambda: sure_gain(TWO, NINE),
                     lambda: are_fair_weights(TWO, NINE, weights), lambda: is_sure_gain(TWO, NINE, None)):
            self.assert_raises(TooMany, many, call)
        self.assert_keeps(InvalidDeal, 1, outcome, TWO, NINE, 1)
        self.assert_keeps(InvalidWeights, 1, broken_sides, TWO, NINE, 1)

    def test_wrong_deals(self):
        gain = [({"corn": 1}, 4, 3), ({"oil": 1}, None, 2)]
        self.assert_bool(is_sure_gain(TWO, gain, [(1, 1), (0, 0)]), True)
        self.assert_bool(is_sure_gain(TWO, gain, ((Ratio(1, 2), Ratio(1, 2)), (0, Ratio(0)))), True)
        wrong = [[(1, 1)], [(1, 1), (0, 0), (0, 0)], [(1, 1), (0, 1)], [(1, 1), (-1, 0)], [(1, -1), (0, 0)], [(True, 1), (0, 0)],
                 [(1, 1), (False, 0)], [[1, 1], [0, 0]], [(1, 1, 0), (0, 0)], [(1, None), (0, 0)], {0: (1, 1), 1: (0, 0)}]
        for value in values_of_every_kind() + wrong:
            self.assert_bool(is_sure_gain(TWO, gain, value), False)
            self.assert_keeps(InvalidDeal, value, outcome, futures=TWO, quotes=gain, deal=value)
        self.assert_bool(is_sure_gain(TWO, gain, [(0, 0), (0, 0)]), False)
        self.assert_bool(is_sure_gain(TWO, gain, [(1, 2), (0, 0)]), False)
        self.assert_bool(is_deal_by_sums(gain, [(0, 0), (0, 0)]), True)

    def test_wrong_weights(self):
        right = {"wet": Ratio(1, 2), "dry": Ratio(1, 2)}
        self.assert_bool(are_fair_weights(TWO, QUOTES, right), True)
        wrong = [{"dry": 1}, {"dry": 1, "wet": True}, {"dry": 1, "wet": 1, "fog": 0}, {"dry": 1, "wet": None}, {"dry": 1, 1: 1},
                 [("dry", 1), ("wet", 1)]]
        for value in values_of_every_kind() + wrong:
            self.assert_bool(are_fair_weights(TWO, QUOTES, value), False)
            self.assert_keeps(InvalidWeights, value, broken_sides, futures=TWO, quotes=QUOTES, weights=value)
            self.assert_keeps(InvalidWeights, value, value_of, TWO, value, None)
        for value in values_of_every_kind() + [{"corn": True}, {"coin": 1}, {"corn": Ratio(1)}]:
            if value.__class__ is not dict or value not in ({}, {"a": 1}, {"tea": 0}):
                self.assert_keeps(InvalidBundle, value, value_of, TWO, {"dry": 1, "wet": 1}, value)
        for numbers in ({"dry": 0, "wet": 1}, {"dry": -1, "wet": 1}, {"dry": 1, "wet": 1}):
            self.assert_bool(are_fair_weights(TWO, QUOTES, numbers), False)
        self.assert_same(value_of(futures=TWO, weights={"dry": -1, "wet": 0}, bundle={"corn": 2}), Ratio(-8))

    def test_great_numbers(self):
        source = Random(443)
        goods, names = ["a", "b", "c", "d"], list("abcdefgh")
        for many in (3, 5, 8):
            futures = Futures({name: {good: source.randint(0, GREAT) for good in goods} for name in names})
            weights = {name: Ratio(source.randint(1, 9)) for name in names}
            quotes = []
            for _ in range(many):
                bundle = {good: source.randint(-GREAT, GREAT) for good in goods}
                value = Ratio.total([weights[name] * futures.worth(bundle, name) for name in names])
                room = Ratio(source.randint(1, GREAT), source.randint(1, GREAT))
                quotes.append((bundle, value - room, value + room))
            self.assert_bool(self.check_quotes(futures, quotes), True)
            self.assert_told_short(fair_weights(futures, quotes))
            shut = quotes + [(quotes[0][0], quotes[0][2] + 1, None)] if many < 8 else [(quotes[0][0], 5, 4)] + quotes[1:]
            self.assert_bool(self.check_quotes(futures, shut), False)
            self.assert_told_short(sure_gain(futures, shut))

    def test_quotes_that_bind_all_but_one_weight(self):
        """No corner is short here, but weights that the quotes leave free are."""
        source = Random(444)
        goods, names = list("abcdefgh"), list("abcdefgh")
        futures = Futures({name: {good: source.randint(0, GREAT) for good in goods} for name in names})
        quotes = []
        for _ in range(7):
            bundle = {good: source.randint(-GREAT, GREAT) for good in goods}
            value = Ratio(1, source.randint(1, GREAT)) + sum(futures.all_worths(bundle).values())
            quotes.append((bundle, value, value))
        self.assert_bool(self.check_quotes(futures, quotes), True)
        self.assert_told_short(fair_weights(futures, quotes))

    def test_told_values_are_new(self):
        self.assert_all_new(lambda: [sides(QUOTES), outcome(TWO, QUOTES, [(1, 0), (1, 0)]), fair_weights(TWO, QUOTES),
                                     sure_gain(TWO, [({"corn": 1}, 4, 3)]), broken_sides(TWO, QUOTES, {"dry": 1, "wet": 0})])
        fair_weights(TWO, QUOTES).clear()
        self.assertEqual(len(fair_weights(TWO, QUOTES)), 2)
        self.assertEqual(QUOTES, [({"corn": 1}, 2, 3), ({"oil": 1}, None, 2)])


if __name__ == "__main__":
    unittest.main()
