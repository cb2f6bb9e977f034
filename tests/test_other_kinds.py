"""[2]: what is of another kind is no known name, word or tuple, even if it is equal to all or cannot be compared."""

import unittest

from lateledger.accounts import Chart
from lateledger.cover import cover, is_cover_paper, is_family, loss
from lateledger.errors import InvalidFills, InvalidGood, InvalidHoldings, InvalidLine, InvalidLines, InvalidMove, InvalidNumbers
from lateledger.errors import InvalidOwed, InvalidPair, InvalidPrices, InvalidRow, InvalidSet, InvalidSharing, InvalidSide
from lateledger.errors import InvalidWeights, UnknownAccount, UnknownFuture, UnknownLine, UnknownOrder, UnknownUnit
from lateledger.fills import brings, fill_span, gain, is_fills
from lateledger.flows import bound, is_least
from lateledger.futures import Futures
from lateledger.journals import Journal
from lateledger.lines import Clearing
from lateledger.moves import Moves, broken, is_move, tightest
from lateledger.nets import are_potentials, first
from lateledger.orders import Order, Round
from lateledger.quotes import are_fair_weights, value_of
from lateledger.reports import are_weights, cheapest_set, is_kept_set, is_set_paper, own_weights, told_value
from lateledger.rounds import are_prices, is_supported, price_span, surplus
from lateledger.shares import is_fair, overpaying
from lateledger.spans import is_needless, is_way
from lateledger.systems import System
from lateledger.wholes import do_stand, is_bar
from tests.support import Checks, strange_keys, strange_values

TEA = Round({"x": Order("a", {"tea": -1}, -4, 3), "y": Order("b", {"tea": 1}, 7, 2)})
HALL = Clearing({"a": 1, "b": -1}, [("a", "b", 2, 0)])
TWO = Futures({"dry": {"corn": 4, "oil": 1}, "wet": {"corn": 2, "oil": 3}})
QUOTES = [({"corn": 1}, 2, 3), ({"oil": 1}, None, 2)]
CHART = Chart(["a", "b"], ["coin"])
KEPT = {"p": {("a", "coin"): 1}}
BOUND = Moves(["tea"], [("tea", None, 2), (None, "tea", 3)])


class OtherKindsTest(Checks, unittest.TestCase):
    def test_goods_of_a_round(self):
        for value in strange_values("tea"):
            self.assert_keeps(InvalidGood, value, price_span, TEA, value)

    def test_sets_of_houses(self):
        for value in strange_values("a", "b"):
            for some in ([value], ["a", value], ("b", value, "a")):
                self.assert_raises(InvalidSet, {"position": min(len(some) - 1, 1)}, bound, HALL, some)
                self.assert_bool(is_least(HALL, some), False)
            self.assert_bool(is_least(HALL, value), False)

    def test_sides(self):
        for value in strange_values("ask", "bid") + [None, True, 2, "bids"]:
            for side in ((0, value), (1, value), (value, "ask"), (value, value)):
                self.assert_keeps(InvalidSide, side, is_needless, TWO, QUOTES, side)
            self.assert_keeps(InvalidSide, value, is_needless, TWO, QUOTES, value)

    def test_orders_and_accounts_and_futures(self):
        for value in strange_values("x", "a", "coin", "dry"):
            for call in (lambda value: TEA[value], lambda value: fill_span(TEA, value), lambda value: TEA.without(["x", value]),
                         lambda value: surplus(TEA, {"tea": 1}, value), lambda value: brings(TEA, ["x", value])):
                self.assert_keeps(UnknownOrder, value, call, value)
            self.assert_bool(value in TEA, False)
            self.assert_bool(value in CHART, False)
            self.assert_keeps(UnknownAccount, value, CHART.below, value)
            self.assert_keeps(UnknownUnit, value, Journal(CHART).own, "a", value)
            self.assert_keeps(UnknownFuture, value, TWO.worths, value)

    def test_lines_and_conditions_and_rows(self):
        for value in strange_values("a", "tea", "at most"):
            line, row = (value, "b", 2, 0), ([1], value, 0)
            self.assert_raises(InvalidLines, {"position": 0}, Clearing, {"a": 1, "b": -1}, [line])
            self.assert_keeps(InvalidLine, line, lambda: HALL + line)
            self.assert_keeps(UnknownLine, line, lambda: HALL - line)
            self.assert_raises(InvalidPair, {"value": (value, None)}, tightest, BOUND, value, None)
            self.assert_keeps(InvalidRow, row, lambda: System([(0, 1)]) + row)

    def test_tuples_that_are_equal_to_all(self):
        class Equal(tuple):
            def __eq__(self, other):
                return True

        line = Equal(("a", "b", 3, 0))
        self.assert_bool(line in HALL, False)
        self.assert_keeps(UnknownLine, line, lambda: HALL - line)
        self.assert_bool(Equal(("a", "b", 2, 0)) in HALL, True)
        self.assertEqual(len(HALL - Equal(("a", "b", 2, 0))), 0)
        side = Equal((0, "asks"))
        self.assert_keeps(InvalidSide, side, is_needless, TWO, QUOTES, side)

    def test_keys_of_dicts_of_a_round(self):
        for key in strange_keys("x"):
            fills = {key: 0, "y": 0}
            self.assert_bool(is_fills(TEA, fills), False)
            self.assert_keeps(InvalidFills, fills, gain, TEA, fills)
        for key in strange_keys("tea"):
            self.assert_bool(are_prices(TEA, {key: 5}), False)
            self.assert_bool(is_supported(TEA, ({"x": 2, "y": 2}, {key: 4})), False)

    def test_keys_of_dicts_of_a_clearing_and_of_moves(self):
        for key in strange_keys("a"):
            owed = {key: 1, "b": -1}
            self.assert_keeps(InvalidOwed, owed, HALL.with_owed, owed)
            self.assert_bool(are_potentials(HALL, first(HALL), ({key: 0, "b": 0}, 0, 0)), False)
        for key in strange_keys("tea"):
            told = {key: 1}
            self.assert_bool(is_move(BOUND, told), False)
            self.assert_keeps(InvalidMove, told, broken, BOUND, told)
            self.assert_keeps(InvalidMove, told, loss, BOUND, {}, told)
            self.assert_keeps(InvalidHoldings, told, cover, BOUND, told)
            self.assert_bool(is_cover_paper(BOUND, {"tea": 1}, ({key: -3}, [0, 1])), False)
            self.assert_bool(is_family(Moves(["tea"]), {"tea": 1}, ({"tea": 0}, {key: -1})), False)
        for key in strange_keys("ann"):
            sharing, houses = {key: 3}, {"ann": {"tea": 1}}
            self.assert_keeps(InvalidSharing, sharing, overpaying, BOUND, houses, sharing)
            self.assert_bool(is_fair(BOUND, houses, sharing), False)

    def test_keys_of_weights_and_reports(self):
        for key in strange_keys("dry"):
            told = {key: 1, "wet": 1}
            self.assert_keeps(InvalidWeights, told, value_of, TWO, told, {})
            self.assert_bool(are_fair_weights(TWO, [], told), False)
            self.assert_bool(is_way(TWO, [], {"corn": 1}, told), False)
        for key in strange_keys("p"):
            told = {key: 1}
            self.assert_bool(are_weights(CHART, KEPT, KEPT["p"], told), False)
            self.assert_bool(is_bar(CHART, KEPT, {"p": 1}, told), False)
            self.assert_keeps(InvalidNumbers, told, told_value, CHART, KEPT, KEPT["p"], told)
            self.assert_keeps(InvalidNumbers, told, do_stand, CHART, KEPT, told)
            self.assert_keeps(InvalidPrices, told, cheapest_set, CHART, KEPT, told)
            self.assert_bool(is_kept_set(CHART, KEPT, [key]), False)
            self.assert_bool(is_set_paper(CHART, KEPT, {"p": 0}, (["p"], {}, {key: [("a", "coin", 1), ("b", "coin", -1)]})), False)
        self.assertEqual(own_weights(CHART, KEPT["p"]), {("a", "coin"): 1})


if __name__ == "__main__":
    unittest.main()
