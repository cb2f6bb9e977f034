"""[32], [34], [35], [36] and lateledger/fills.py."""

import unittest
from fractions import Fraction
from random import Random

from lateledger.errors import InvalidFills, InvalidRound, UnknownOrder
from lateledger.fills import better_fills, brings, fill_span, first_fills, gain, greatest_gain, is_fills, is_sure
from lateledger.orders import Order, Round
from lateledger.ratios import Ratio
from tests.market import best_corners, corners, gain_by_sums, ratio, ratios, some_round
from tests.support import GREAT, Checks, fraction, values_of_every_kind

TEA = Round({"x": Order("a", {"tea": -1}, -4, 3), "y": Order("b", {"tea": 1}, 7, 2), "z": Order("c", {"tea": 1}, 9, 1)})


class FillsTest(Checks, unittest.TestCase):
    def check_round(self, deals):
        most, best = best_corners(deals)
        names = list(deals.orders())
        self.assert_same(greatest_gain(deals), ratio(most))
        first = max(best, key=lambda fills: [fills[name] for name in names])
        self.assert_same(first_fills(deals), {name: ratio(first[name]) for name in names})
        for name in names:
            told = [fills[name] for fills in best]
            self.assert_same(fill_span(deals, name), (ratio(min(told)), ratio(max(told))))
            self.assert_bool(is_sure(deals, name), min(told) == max(told))
            without = Round({other: order for other, order in deals.orders().items() if other != name})
            less = best_corners(without)[0]
            self.assert_same(brings(deals, [name]), ratio(most - less))
            self.assertFalse(brings(deals, (name, name)).sign < 0)

    def test_against_all_corners(self):
        source = Random(301)
        for _ in range(60):
            self.check_round(some_round(source))
        for _ in range(8):
            self.check_round(some_round(source, 7, 4))

    def test_judges_against_all_corners(self):
        source = Random(302)
        for _ in range(30):
            deals = some_round(source)
            most, _ = best_corners(deals)
            for fills in corners(deals)[:20]:
                told = ratios(fills)
                self.assert_bool(is_fills(deals, told), True)
                self.assert_same(gain(deals, told), ratio(gain_by_sums(deals, fills)))
                more = better_fills(deals, told)
                self.assert_bool(more is None, gain_by_sums(deals, fills) == most)
                if more is not None:
                    self.assert_bool(is_fills(deals, more), True)
                    self.assertTrue(all(number.__class__ is Ratio for number in more.values()))
                    self.assertGreater(fraction(gain(deals, more)), gain_by_sums(deals, fills))
                for name in told:
                    for other in (told[name] + Ratio(1, 3), Ratio(-1), told[name] + 100):
                        wrong = {**told, name: other}
                        bundle = deals[name].bundle()
                        right = not bundle and Fraction(0) <= fraction(other) <= deals[name].most
                        self.assert_bool(is_fills(deals, wrong), right)

    def test_rounds_of_none_and_of_one_order(self):
        none = Round({})
        self.assert_same([greatest_gain(none), first_fills(none), brings(none, [])], [Ratio(0), {}, Ratio(0)])
        self.assert_bool(is_fills(none, {}), True)
        self.assertIsNone(better_fills(none, {}))
        one = Round({"x": Order("a", {"tea": 1}, 9, 5)})
        self.assert_same(first_fills(one), {"x": Ratio(0)})
        self.assert_same(fill_span(one, "x"), (Ratio(0), Ratio(0)))
        empty = Round({"x": Order("a", {}, 2, 5), "y": Order("a", {"tea": 0}, -2, 5), "z": Order("b", {}, 0, 4)})
        self.assert_same(first_fills(empty), {"x": Ratio(5), "y": Ratio(0), "z": Ratio(4)})
        self.assert_same(fill_span(empty, "z"), (Ratio(0), Ratio(4)))
        self.assert_bool(is_sure(empty, "z"), False)
        self.assert_bool(is_sure(empty, "y"), True)
        self.assert_same(greatest_gain(empty), Ratio(10))

    def test_twelve_orders_of_four_goods(self):
        source = Random(303)
        for _ in range(4):
            orders = {name: Order("a", {good: source.randint(-4, 4) for good in ("a", "b", "c", "d")},
                                  source.randint(-20, 20), source.randint(1, 9)) for name in "abcdefghijkl"}
            deals = Round(orders)
            fills = first_fills(deals)
            self.assert_bool(is_fills(deals, fills), True)
            self.assertEqual(gain(deals, fills), greatest_gain(deals))
            self.assertIsNone(better_fills(deals, fills))
            for name in fills:
                low, high = fill_span(deals, name)
                self.assertTrue(low.is_at_most(fills[name]) and fills[name].is_at_most(high))

    def test_bundles_that_are_not_halved(self):
        deals = Round({"x": Order("a", {"tea": 2, "oil": -1}, 3, 1), "y": Order("b", {"tea": -3, "oil": 1}, 1, 1),
                       "z": Order("c", {"oil": 1}, 1, 4), "u": Order("d", {"tea": 1}, 2, 4)})
        self.check_round(deals)
        self.assert_same(first_fills(deals)["x"], Ratio(1))

    def test_orders_that_may_stand_for_each_other(self):
        orders = {"x": Order("a", {"tea": -1}, -4, 3), "y": Order("b", {"tea": -1}, -4, 3), "z": Order("c", {"tea": 1}, 9, 3),
                  "u": Order("d", {"tea": 2}, 18, 1)}
        deals = Round(orders)
        self.check_round(deals)
        self.assert_same(fill_span(deals, "x"), (Ratio(2), Ratio(3)))
        deals = deals.without(["u"])
        self.check_round(deals)
        for name in ("x", "y"):
            self.assert_same(fill_span(deals, name), (Ratio(0), Ratio(3)))

    def test_great_numbers(self):
        source = Random(304)
        deals = Round({name: Order("a", {good: source.randint(-GREAT, GREAT) for good in ("a", "b", "c", "d")},
                                   source.randint(-GREAT, GREAT), source.randint(1, GREAT)) for name in "abcdefghijkl"})
        fills = first_fills(deals)
        self.assert_told_short(fills)
        self.assertIsNone(better_fills(deals, fills))
        nothing = {name: 0 for name in "abcdefghijkl"}
        self.assert_told_short(better_fills(deals, nothing))

    def test_values_of_every_kind(self):
        for value in values_of_every_kind():
            if not isinstance(value, Round):
                for call in (lambda: is_fills(value, {}), lambda: gain(value, {}), lambda: greatest_gain(value),
                             lambda: first_fills(value), lambda: fill_span(value, "x"), lambda: is_sure(value, "x"),
                             lambda: better_fills(value, {}), lambda: brings(value, ["x"])):
                    self.assert_keeps(InvalidRound, value, call)
            self.assert_bool(is_fills(TEA, value), False)
            self.assert_keeps(InvalidFills, value, gain, TEA, value)
            self.assert_keeps(InvalidFills, value, better_fills, TEA, value)
            self.assert_keeps(UnknownOrder, value, fill_span, TEA, value)
            self.assert_keeps(UnknownOrder, value, is_sure, TEA, value)
            if not isinstance(value, (list, tuple)):
                self.assert_keeps(UnknownOrder, value, brings, TEA, ["x", value, "u"])

    def test_wrong_fills(self):
        right = {"x": Ratio(1, 2), "y": Ratio(1, 2), "z": 0}
        self.assert_bool(is_fills(TEA, right), True)
        for wrong in ({"x": 1, "y": 1}, {**right, "u": 0}, {"x": 1, "y": 1, "z": False}, {"x": 1, "y": True, "z": 0},
                      {"x": 1, "y": 1, 0: 0}, {"x": 3, "y": 2, "z": 0}, {"x": 4, "y": 3, "z": 1}, {"x": 1, "y": 2, "z": -1},
                      {"x": None, "y": 0, "z": 0}, [("x", 0), ("y", 0), ("z", 0)], {"x": 2, "y": 0, "z": 2}):
            self.assert_bool(is_fills(TEA, wrong), False)
            self.assert_keeps(InvalidFills, wrong, gain, TEA, wrong)
            self.assert_keeps(InvalidFills, wrong, better_fills, deals=TEA, fills=wrong)
        self.assert_bool(is_fills(TEA, {"z": 0, "y": Ratio(2), "x": 2}), True)

    def test_what_orders_bring(self):
        self.assert_same(brings(TEA, ["z"]), Ratio(5))
        self.assert_same(brings(TEA, []), Ratio(0))
        self.assert_same(brings(deals=TEA, names=("x", "y")), Ratio(11))
        self.assert_keeps(UnknownOrder, "u", brings, TEA, ["x", "u", "v"])
        self.assert_raises(InvalidRound, {"value": None}, brings, None, ["u"])

    def test_told_dicts_are_new(self):
        self.assert_all_new(lambda: [first_fills(TEA), better_fills(TEA, {"x": 0, "y": 0, "z": 0})])
        first_fills(TEA)["x"] = 7
        self.assert_same(first_fills(TEA), {"x": Ratio(3), "y": Ratio(2), "z": Ratio(1)})
        fills = {"x": 1, "y": 1, "z": 0}
        better_fills(TEA, fills)
        self.assertEqual(fills, {"x": 1, "y": 1, "z": 0})


if __name__ == "__main__":
    unittest.main()
