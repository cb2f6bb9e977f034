"""[33], [34], [35], [37] and lateledger/rounds.py."""

import unittest
from random import Random

from lateledger.errors import InvalidFills, InvalidGood, InvalidPrices, InvalidRound, UnknownOrder
from lateledger.fills import better_fills, brings, first_fills, gain, greatest_gain, is_fills
from lateledger.orders import Order, Round
from lateledger.ratios import Ratio
from lateledger.rounds import are_prices, bound, do_support, is_supported, price_span, surplus, told_prices, trades
from tests.market import best_corners, corners, ratio, ratios, rows_of_prices, some_round, span_by_elimination
from tests.market import told_by_elimination
from tests.support import GREAT, Checks, fraction, looks_like, values_of_every_kind

TEA = Round({"x": Order("a", {"tea": -1}, -4, 3), "y": Order("b", {"tea": 1}, 7, 2), "z": Order("c", {"tea": 1}, 9, 1)})


def some_prices(source, deals):
    return {good: Ratio(source.randint(-6, 6), source.randint(1, 2)) for good in deals.goods()}


def surplus_by_sums(order, prices):
    return order.limit - sum(number * fraction(prices[good]) for good, number in order.bundle().items())


class RoundsTest(Checks, unittest.TestCase):
    def test_told_prices_and_spans(self):
        source = Random(311)
        for _ in range(60):
            deals = some_round(source)
            first = {name: fraction(number) for name, number in first_fills(deals).items()}
            self.assert_same(told_prices(deals), ratios(told_by_elimination(deals, first)))
            goods = deals.goods()
            for place, good in enumerate(goods):
                ends = span_by_elimination(rows_of_prices(deals, first), len(goods), place)
                self.assert_same(price_span(deals, good), tuple(None if end is None else ratio(end) for end in ends))

    def test_told_prices_support_all_best_fills_and_have_the_least_bound(self):
        source = Random(312)
        for _ in range(40):
            deals = some_round(source, 6, 4)
            most, best = best_corners(deals)
            prices = told_prices(deals)
            self.assert_same(bound(deals, prices), ratio(most))
            for fills in best:
                self.assert_bool(do_support(deals, ratios(fills), prices), True)
                self.assert_bool(is_supported(deals, (ratios(fills), prices)), True)
            for _ in range(6):
                others = some_prices(source, deals)
                self.assertTrue(greatest_gain(deals).is_at_most(bound(deals, others)))
                are_best = bound(deals, others) == greatest_gain(deals)
                for fills in corners(deals)[:12]:
                    told = ratios(fills)
                    supports = are_best and gain(deals, told) == greatest_gain(deals)
                    self.assert_bool(do_support(deals, told, others), supports)
                    self.assert_bool(is_supported(deals, (told, others)), supports)
                    self.assert_bool(do_support(deals, told, prices), better_fills(deals, told) is None)

    def test_surplus_and_bound_by_their_sums(self):
        source = Random(313)
        for _ in range(60):
            deals = some_round(source)
            prices = some_prices(source, deals)
            total = 0
            for name, order in deals.orders().items():
                left = surplus_by_sums(order, prices)
                self.assert_same(surplus(deals, prices, name), ratio(left + 0 * fraction(Ratio(1))))
                total += max(left, 0) * order.most
            self.assertEqual(fraction(bound(deals, prices)), total)
            self.assertEqual(bound(deals, prices).__class__, Ratio)

    def test_orders_bring_their_surplus_at_least(self):
        source = Random(314)
        for _ in range(30):
            deals = some_round(source)
            prices = told_prices(deals)
            for name, order in deals.orders().items():
                self.assertTrue((surplus(deals, prices, name) * order.most).is_at_most(brings(deals, [name])))

    def test_trades_by_their_sums(self):
        source = Random(315)
        for _ in range(50):
            deals = some_round(source)
            prices = some_prices(source, deals)
            for fills in corners(deals)[-5:]:
                wanted = []
                for name, order in deals.orders().items():
                    if fills[name] != 0:
                        goods = {good: ratio(number * fills[name]) for good, number in order.bundle().items()}
                        coin = sum(number * fills[name] * fraction(prices[good]) for good, number in order.bundle().items())
                        wanted.append((name, order.house, goods, Ratio.total([ratio(coin + fills[name] * 0)])))
                told = trades(deals, ratios(fills), prices)
                self.assert_same(told, wanted)
                self.assertEqual(Ratio.total([trade[3] for trade in told]), Ratio(0))
                for good in deals.goods():
                    self.assertEqual(Ratio.total([trade[2].get(good, 0) for trade in told]), Ratio(0))
            first, prices = first_fills(deals), told_prices(deals)
            for name, _, _, coin in trades(deals, first, prices):
                self.assertTrue(coin.is_at_most(first[name] * deals[name].limit))

    def test_ends_that_there_are_not(self):
        seller = Round({"x": Order("a", {"tea": -1}, -4, 3)})
        self.assert_same(price_span(seller, "tea"), (None, Ratio(4)))
        self.assert_same(told_prices(seller), {"tea": Ratio(4)})
        buyer = Round({"x": Order("a", {"tea": 2}, 5, 3)})
        self.assert_same(price_span(buyer, "tea"), (Ratio(5, 2), None))
        self.assert_same(told_prices(buyer), {"tea": Ratio(5, 2)})
        nobody = Round({"x": Order("a", {"tea": 2}, 5, 0), "y": Order("b", {"tea": -1}, 3, 0)})
        self.assert_same(price_span(nobody, "tea"), (None, None))
        self.assert_same(told_prices(nobody), {"tea": Ratio(0)})
        swap = Round({"x": Order("a", {"oil": 1, "tea": -1}, 2, 1), "y": Order("b", {"oil": -1, "tea": 1}, -2, 1)})
        self.assert_same([price_span(swap, good) for good in swap.goods()], [(None, None), (None, None)])
        self.assert_same(told_prices(swap), {"oil": Ratio(0), "tea": Ratio(-2)})
        self.assert_same(told_prices(Round({})), {})
        self.assert_same(told_prices(Round({"x": Order("a", {"tea": 0}, 5, 3)})), {})

    def test_an_order_with_a_most_of_nought_is_at_its_most(self):
        deals = Round({"x": Order("a", {"tea": 1}, 5, 0), "y": Order("b", {"tea": 1}, -5, 0)})
        for price in (-9, 0, 9):
            self.assert_bool(do_support(deals, {"x": 0, "y": 0}, {"tea": price}), True)
            self.assert_same(bound(deals, {"tea": price}), Ratio(0))

    def test_values_of_every_kind(self):
        fills, prices = {"x": 3, "y": 2, "z": 1}, {"tea": 5}
        for value in values_of_every_kind():
            if not isinstance(value, Round):
                for call in (lambda: are_prices(value, {}), lambda: surplus(value, {}, "x"), lambda: bound(value, {}),
                             lambda: do_support(value, {}, {}), lambda: told_prices(value), lambda: price_span(value, "tea"),
                             lambda: is_supported(value, 1), lambda: trades(value, {}, {})):
                    self.assert_keeps(InvalidRound, value, call)
            if not looks_like(value, {"tea": 0}):
                self.assert_bool(are_prices(TEA, value), False)
                self.assert_bool(do_support(TEA, fills, value), False)
                self.assert_keeps(InvalidPrices, value, surplus, TEA, value, "u")
                self.assert_keeps(InvalidPrices, value, bound, TEA, value)
                self.assert_keeps(InvalidPrices, value, trades, TEA, fills, value)
            self.assert_keeps(InvalidFills, value, trades, TEA, value, value)
            self.assert_keeps(InvalidFills, value, do_support, TEA, value, value)
            self.assert_keeps(UnknownOrder, value, surplus, TEA, prices, value)
            if not looks_like(value, "tea"):
                self.assert_keeps(InvalidGood, value, price_span, TEA, value)
            self.assert_bool(is_supported(TEA, value), False)
            self.assert_bool(is_supported(TEA, (fills, value)), False)
            self.assert_bool(is_supported(TEA, (value, prices)), False)

    def test_wrong_prices(self):
        fills = {"x": 3, "y": 2, "z": 1}
        for wrong in ({"tea": True}, {"tea": 5, "oil": 0}, {"oil": 5}, {"tea": None}, [("tea", 5)], {"tea": "5"}, {True: 5}):
            self.assert_bool(are_prices(TEA, wrong), False)
            self.assert_bool(do_support(TEA, fills, wrong), False)
            self.assert_bool(is_supported(TEA, (fills, wrong)), False)
            self.assert_keeps(InvalidPrices, wrong, bound, deals=TEA, prices=wrong)
        self.assert_bool(are_prices(TEA, {"tea": Ratio(7, 2)}), True)
        self.assert_bool(is_supported(TEA, (fills, {"tea": 5})), True)
        self.assert_bool(is_supported(TEA, [fills, {"tea": 5}]), False)
        self.assert_bool(is_supported(TEA, (fills, {"tea": 5}, 0)), False)
        self.assert_bool(is_supported(TEA, (fills, {"tea": 8})), False)
        for edge in (4, 7):
            self.assert_bool(do_support(TEA, fills, {"tea": edge}), True)

    def test_great_numbers(self):
        source = Random(316)
        deals = Round({name: Order("a", {good: source.randint(-GREAT, GREAT) for good in ("a", "b", "c", "d")},
                                   source.randint(-GREAT, GREAT), source.randint(1, GREAT)) for name in "abcdefghijkl"})
        fills, prices = first_fills(deals), told_prices(deals)
        self.assert_bool(is_supported(deals, (fills, prices)), True)
        self.assertEqual(bound(deals, prices), gain(deals, fills))
        self.assertTrue(is_fills(deals, fills))

    def test_told_dicts_are_new(self):
        fills, prices = {"x": 1, "y": 1, "z": 0}, {"tea": 5}
        self.assert_all_new(lambda: [told_prices(TEA), trades(TEA, fills, prices)])
        trades(TEA, fills, prices)[0][2]["tea"] = 1
        self.assertEqual(trades(TEA, fills, prices)[0][2], {"tea": Ratio(-1)})
        self.assertEqual((fills, prices), ({"x": 1, "y": 1, "z": 0}, {"tea": 5}))


if __name__ == "__main__":
    unittest.main()
