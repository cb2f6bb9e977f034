"""[31] and the part "lateledger/orders.py": Order and Round."""

import unittest

from lateledger.errors import InvalidBundle, InvalidHouse, InvalidLimit, InvalidMost, InvalidName, InvalidOrder
from lateledger.errors import InvalidOrders, NameTaken, TooMany, UnknownOrder
from lateledger.orders import Order, Round
from lateledger.ratios import Ratio
from tests.support import GREAT, Checks, looks_like, values_of_every_kind

SELL = Order("a", {"tea": -1}, -4, 3)
BUY = Order("b", {"tea": 1, "oil": 2, "corn": 0}, 7, 2)
NOTHING = Order("a", {}, 0, 0)
NAMES = ["a", "b", "c", "d", "e", "f", "g", "h", "i", "j", "k", "l", "m", "n"]


def is_plain_integer(value):
    return value.__class__ is int


class OrderTest(Checks, unittest.TestCase):
    def test_told_parts(self):
        self.assert_same([SELL.house, SELL.bundle(), SELL.limit, SELL.most], ["a", {"tea": -1}, -4, 3])
        self.assert_same([BUY.house, BUY.bundle(), BUY.limit, BUY.most], ["b", {"oil": 2, "tea": 1}, 7, 2])
        self.assert_same([NOTHING.bundle(), NOTHING.limit, NOTHING.most], [{}, 0, 0])
        great = Order("abcdefgh", {"tea": GREAT, "oil": -GREAT}, -GREAT, GREAT)
        self.assert_same([great.bundle(), great.limit, great.most], [{"oil": -GREAT, "tea": GREAT}, -GREAT, GREAT])
        self.assert_same(Order("a", {"tea": 0, "oil": 0}, 1, 1).bundle(), {})

    def test_properties_are_not_assigned(self):
        for name in ("house", "limit", "most"):
            with self.assertRaises(AttributeError):
                setattr(SELL, name, 1)

    def test_all_names_are_houses(self):
        for house in ("coin", "hall", "outside", "a", "abcdefgh"):
            self.assertEqual(Order(house, {}, 0, 0).house, house)

    def test_by_name(self):
        self.assertEqual(Order(most=3, limit=-4, bundle={"tea": -1}, house="a"), SELL)
        deals = Round(orders={"x": SELL})
        self.assertEqual(deals.with_order(order=BUY, name="y"), Round({"x": SELL, "y": BUY}))
        self.assertEqual(deals.without(names=["x"]), Round({}))
        self.assertEqual(deals.of_house(house="a"), ["x"])

    def test_wrong_houses(self):
        for value in values_of_every_kind() + ["A", "a.b", "", "abcdefghi"]:
            if value.__class__ is not str or value in ("", "a.b", "abcdefghi", "Tea", "te a", "at most", "1", "A"):
                self.assert_keeps(InvalidHouse, value, Order, value, {}, 0, 0)
                self.assert_keeps(InvalidHouse, value, Order, value, None, None, None)
                self.assert_keeps(InvalidHouse, value, Round({}).of_house, value)

    def test_wrong_bundles(self):
        wrong = [value for value in values_of_every_kind() if not looks_like(value, {}, {"a": 1}, {"tea": 0})]
        for value in wrong + [{"coin": 1}, {"hall": 0}, {"outside": 1}, {"tea": True}, {"tea": Ratio(1)}, {"tea": 1, "Oil": 1},
                              {"tea": None}, [("tea", 1)], {"tea": "1"}]:
            self.assert_keeps(InvalidBundle, value, Order, "a", value, 0, 0)
            self.assert_keeps(InvalidBundle, value, Order, "a", value, None, None)

    def test_wrong_limits_and_mosts(self):
        for value in values_of_every_kind():
            if not is_plain_integer(value):
                self.assert_keeps(InvalidLimit, value, Order, "a", {}, value, 0)
                self.assert_keeps(InvalidLimit, value, Order, "a", {}, value, None)
                self.assert_keeps(InvalidMost, value, Order, "a", {}, 0, value)
        for value in (-1, -GREAT):
            self.assert_keeps(InvalidMost, value, Order, "a", {}, 0, value)

    def test_equal(self):
        for other in (Order("b", {"oil": 2, "tea": 1}, 7, 2), Order("b", {"tea": 1, "oil": 2, "rye": 0}, 7, 2)):
            self.assertTrue(BUY == other)
            self.assertFalse(BUY != other)
        for other in (Order("c", {"oil": 2, "tea": 1}, 7, 2), Order("b", {"oil": 2}, 7, 2), Order("b", {"oil": 2, "tea": 2}, 7, 2),
                      Order("b", {"oil": 2, "tea": 1}, 8, 2), Order("b", {"oil": 2, "tea": 1}, 7, 3), SELL, NOTHING):
            self.assertFalse(BUY == other)
            self.assertTrue(BUY != other)
        for value in values_of_every_kind() + [("a", {"tea": -1}, -4, 3)]:
            self.assertIs(SELL == value, False)

    def test_repr(self):
        self.assertEqual(repr(SELL), "Order('a', {'tea': -1}, -4, 3)")
        self.assertEqual(repr(BUY), "Order('b', {'oil': 2, 'tea': 1}, 7, 2)")
        self.assertEqual(repr(NOTHING), "Order('a', {}, 0, 0)")

    def test_bundles_are_copied_and_new(self):
        bundle = {"tea": 1}
        order = Order("a", bundle, 0, 0)
        self.assertEqual(bundle, {"tea": 1})
        bundle["tea"] = 2
        self.assert_all_new(lambda: order.bundle())
        order.bundle()["oil"] = 3
        self.assert_same(order.bundle(), {"tea": 1})


class RoundTest(Checks, unittest.TestCase):
    def setUp(self):
        self.deals = Round({"y": BUY, "x": SELL, "z": NOTHING})

    def tearDown(self):
        self.assertEqual(self.deals, Round({"x": SELL, "y": BUY, "z": NOTHING}))

    def test_told_parts(self):
        self.assert_same(self.deals.orders(), {"x": SELL, "y": BUY, "z": NOTHING})
        self.assert_same(self.deals.goods(), ["oil", "tea"])
        self.assertEqual(len(self.deals), 3)
        self.assert_same([Round({}).orders(), Round({}).goods(), len(Round({}))], [{}, [], 0])
        self.assert_same(Round({"a": Order("a", {"tea": 0}, 1, 1)}).goods(), [])

    def test_wrong_orders(self):
        for value in values_of_every_kind():
            if value.__class__ is not dict or value not in ({}, {"a": 1}, {"tea": 0}):
                self.assert_raises(InvalidOrders, {"name": None}, Round, value)
        for value in ({"x": SELL, 1: SELL}, {"X": SELL}, {"": SELL}, {True: SELL}, {("x",): SELL}, {"abcdefghi": SELL},
                      {"x": None, "Y": SELL}, [("x", SELL)], {"a.b": SELL}, {None: SELL}):
            self.assert_raises(InvalidOrders, {"name": None}, Round, value)

    def test_the_first_wrong_order_decides_sorted(self):
        self.assert_raises(InvalidOrders, {"name": "b"}, Round, {"c": None, "b": 1, "a": SELL})
        self.assert_raises(InvalidOrders, {"name": "z"}, Round, {"z": Round({}), "y": BUY})
        for value in values_of_every_kind():
            if not isinstance(value, Order):
                self.assert_raises(InvalidOrders, {"name": "x"}, Round, {"x": value})
                self.assert_keeps(InvalidOrder, value, self.deals.with_order, "w", value)

    def test_up_to_twelve_orders(self):
        twelve = Round({name: SELL for name in NAMES[:12]})
        self.assertEqual(len(twelve), 12)
        for many in (13, 14):
            self.assert_raises(TooMany, {"what": "orders", "allowed": 12}, Round, {name: SELL for name in NAMES[:many]})
        self.assert_raises(TooMany, {"what": "orders", "allowed": 12}, twelve.with_order, "z", SELL)
        self.assert_raises(NameTaken, {"name": "a"}, twelve.with_order, "a", SELL)
        self.assertEqual(len(twelve.without(["a"]).with_order("z", SELL)), 12)

    def test_up_to_four_goods(self):
        four = Round({"x": Order("a", {"tea": 1, "oil": 1, "rye": 0, "corn": -1}, 1, 1), "y": Order("b", {"wax": 2}, 1, 1)})
        self.assertEqual(four.goods(), ["corn", "oil", "tea", "wax"])
        self.assertEqual(four.with_order("z", Order("c", {"tea": 1, "rye": 0}, 1, 1)).goods(), four.goods())
        self.assert_raises(TooMany, {"what": "goods", "allowed": 4}, four.with_order, "z", Order("c", {"rye": 1}, 1, 1))
        five = {good: 1 for good in ("tea", "oil", "rye", "corn", "wax")}
        self.assert_raises(TooMany, {"what": "goods", "allowed": 4}, Round, {"x": Order("a", five, 1, 1)})
        self.assert_raises(TooMany, {"what": "orders", "allowed": 12}, Round, {name: Order("a", five, 1, 1) for name in NAMES[:13]})
        self.assert_raises(InvalidOrders, {"name": "n"}, Round, {**{name: SELL for name in NAMES[:13]}, "n": None})

    def test_orders_by_name(self):
        self.assertEqual([self.deals[name] for name in ("x", "y", "z")], [SELL, BUY, NOTHING])
        for value in values_of_every_kind() + ["w", "X", "xy", ("x",), ["x"]]:
            self.assert_keeps(UnknownOrder, value, lambda: self.deals[value])
            self.assertIs(value in self.deals, False)
        for name in ("x", "y", "z"):
            self.assertIs(name in self.deals, True)

    def test_with_order(self):
        more = self.deals.with_order("w", SELL)
        self.assert_same(more.orders(), {"w": SELL, "x": SELL, "y": BUY, "z": NOTHING})
        for value in values_of_every_kind() + ["A", "abcdefghi"]:
            if value.__class__ is not str or value in ("", "a.b", "abcdefghi", "Tea", "te a", "at most", "1", "A"):
                self.assert_keeps(InvalidName, value, self.deals.with_order, value, SELL)
                self.assert_keeps(InvalidName, value, self.deals.with_order, value, None)
        self.assert_raises(NameTaken, {"name": "x"}, self.deals.with_order, "x", SELL)
        self.assert_keeps(InvalidOrder, None, self.deals.with_order, "x", None)

    def test_without(self):
        for names, told in (([], "xyz"), (["x"], "yz"), (("x", "z"), "y"), (["y", "y"], "xz"), (["z", "x", "y", "x"], "")):
            self.assertEqual(list(self.deals.without(names).orders()), list(told))
        for value in (None, "x", {"x": 1}, 1, SELL):
            self.assert_keeps(UnknownOrder, value, self.deals.without, value)
        for value in values_of_every_kind() + ["w", ["x"]]:
            self.assert_keeps(UnknownOrder, value, self.deals.without, [value])
            self.assert_keeps(UnknownOrder, value, self.deals.without, ("x", value, "x", "w"))

    def test_of_house(self):
        self.assert_same(self.deals.of_house("a"), ["x", "z"])
        self.assert_same(self.deals.of_house("b"), ["y"])
        self.assert_same(self.deals.of_house("coin"), [])
        self.assert_same(self.deals.with_order("ab", SELL).of_house("a"), ["ab", "x", "z"])

    def test_the_sequence_of_keys_has_no_effect(self):
        one, other = Round({"x": SELL, "y": BUY}), Round({"y": BUY, "x": SELL})
        self.assertTrue(one == other)
        self.assertEqual(repr(one), repr(other))
        self.assert_same(one.orders(), other.orders())

    def test_equal(self):
        for other in (Round({}), Round({"x": SELL, "y": BUY}), Round({"x": SELL, "y": BUY, "w": NOTHING}),
                      Round({"x": BUY, "y": SELL, "z": NOTHING})):
            self.assertFalse(self.deals == other)
            self.assertTrue(self.deals != other)
        for value in values_of_every_kind() + [self.deals.orders()]:
            if not isinstance(value, Round):
                self.assertIs(self.deals == value, False)
                self.assertIs(Round({}) == value, False)

    def test_repr(self):
        self.assertEqual(repr(Round({"x": SELL})), "Round({'x': Order('a', {'tea': -1}, -4, 3)})")
        self.assertEqual(repr(Round({})), "Round({})")
        self.assertEqual(repr(Round({"y": NOTHING, "x": SELL})),
                         "Round({'x': Order('a', {'tea': -1}, -4, 3), 'y': Order('a', {}, 0, 0)})")

    def test_what_is_passed_and_told_is_new(self):
        orders, names = {"x": SELL}, ["x"]
        deals = Round(orders)
        orders.clear()
        self.assertEqual(len(deals), 1)
        deals.without(names)
        self.assertEqual(names, ["x"])
        self.assert_all_new(lambda: [deals.orders(), deals.goods(), deals.of_house("a")])
        deals.orders().clear()
        deals.goods().clear()
        self.assert_same([deals.orders(), deals.goods()], [{"x": SELL}, ["tea"]])

    def test_not_iterated_over(self):
        with self.assertRaises(TypeError):
            list(self.deals)


if __name__ == "__main__":
    unittest.main()
