"""[55] and lateledger/shares.py."""

import unittest
from itertools import combinations
from random import Random

from lateledger.cover import cover, outcome
from lateledger.errors import InvalidHolders, InvalidSharing, NoMove, WithoutEnd
from lateledger.moves import Moves
from lateledger.ratios import Ratio
from lateledger.shares import fair_sharing, is_fair, joint_cover, overpaying, saved, together
from tests.changes import some_holdings, some_moves
from tests.market import ratio
from tests.support import Checks, fraction, values_of_every_kind

TWO = Moves(["x", "y"], [("x", None, 2), (None, "x", 3), ("y", "x", 1), ("x", "y", 1)])
RINGED = TWO + ("x", None, -4)
BOTH = {"ann": {"x": 1}, "bob": {"y": -1}}


def sums(houses, group):
    told = {}
    for house in group:
        for good, number in houses[house].items():
            told[good] = told.get(good, 0) + fraction(number)
    return {good: ratio(told[good]) for good in sorted(told) if told[good] != 0}


def first_group(moves, houses, sharing):
    """The first group that overpays, by trying all."""
    for many in range(1, len(houses) + 1):
        for group in combinations(sorted(houses), many):
            told = sums(houses, group)
            if outcome(moves, told) == "cover" and sum(fraction(sharing[house]) for house in group) > fraction(cover(moves, told)):
                return list(group)
    return None


class SharesTest(Checks, unittest.TestCase):
    def test_against_all_groups(self):
        source, found = Random(421), 0
        for _ in range(150):
            moves = some_moves(source, 3, 8)
            houses = {house: some_holdings(source, moves.goods()) for house in source.sample(["a", "b", "c", "d", "hall"], 3)}
            joint = sums(houses, houses)
            self.assert_same(together(moves, houses), joint)
            told = outcome(moves, joint)
            error = {"ring": NoMove, "family": WithoutEnd}.get(told)
            if error:
                for call in (joint_cover, fair_sharing):
                    self.assert_raises(error, {}, call, moves, houses)
                self.assert_raises(error, {}, overpaying, moves, houses, None)
                self.assert_bool(is_fair(moves, houses, {house: 0 for house in houses}), False)
                if told == "ring":
                    self.assert_raises(NoMove, {}, saved, moves, houses)
                else:
                    self.assertIsNone(saved(moves, houses))
                continue
            self.assert_same(joint_cover(moves, houses), cover(moves, joint))
            if any(outcome(moves, holdings) == "family" for holdings in houses.values()):
                self.assertIsNone(saved(moves, houses))
            else:
                covers = Ratio.total([cover(moves, holdings) for holdings in houses.values()])
                self.assert_same(saved(moves, houses), covers - cover(moves, joint))
                self.assertTrue(saved(moves, houses).sign >= 0)
            fair = fair_sharing(moves, houses)
            self.assertEqual(list(fair), sorted(houses))
            self.assertTrue(all(number.__class__ is Ratio for number in fair.values()))
            self.assertEqual(Ratio.total(list(fair.values())), joint_cover(moves, houses))
            self.assertIsNone(first_group(moves, houses, fair))
            for _ in range(4):
                one, other = source.sample(sorted(houses), 2)
                part = Ratio(source.randint(-6, 6), source.randint(1, 2))
                sharing = {**fair, one: fair[one] + part, other: fair[other] - part}
                group = first_group(moves, houses, sharing)
                found += group is not None
                self.assert_same(overpaying(moves, houses, sharing), group)
                self.assert_bool(is_fair(moves, houses, sharing), group is None)
        self.assertGreater(found, 50)

    def test_houses_without_holdings(self):
        houses = {"a": {}, "b": {"x": Ratio(1, 2)}, "c": {"x": Ratio(-1, 2), "y": 0}}
        self.assert_same([together(TWO, houses), joint_cover(TWO, houses), saved(TWO, houses)], [{}, Ratio(0), Ratio(5, 2)])
        self.assert_bool(is_fair(TWO, houses, fair_sharing(TWO, houses)), True)
        self.assert_same(overpaying(TWO, houses, {"a": 1, "b": 0, "c": -1}), ["a"])

    def test_eight_houses(self):
        source = Random(422)
        houses = {house: some_holdings(source, ["x", "y"]) for house in "abcdefgh"}
        fair = fair_sharing(TWO, houses)
        self.assertIsNone(overpaying(TWO, houses, fair))
        self.assert_bool(is_fair(TWO, houses, fair), True)
        wrong = {**fair, "a": fair["a"] + 100, "h": fair["h"] - 100}
        self.assert_same(overpaying(TWO, houses, wrong), first_group(TWO, houses, wrong))
        nine = {**houses, "i": {}}
        for call in (together, joint_cover, saved, fair_sharing):
            self.assert_keeps(InvalidHolders, nine, call, TWO, nine)

    def test_larger_groups(self):
        houses = {"a": {"x": 1}, "b": {"x": 1}, "c": {"x": -2}}
        flat = Moves(["x"], [("x", None, 1), (None, "x", 1)])
        self.assert_same(joint_cover(flat, houses), Ratio(0))
        sharing = {"a": 1, "b": 1, "c": -2}
        self.assert_same(overpaying(flat, houses, sharing), None)
        self.assert_same(overpaying(flat, houses, {"a": 0, "b": Ratio(3, 2), "c": Ratio(-3, 2)}), ["b"])
        mixed = {"a": {"x": 1}, "b": {"x": -1}, "c": {}}
        self.assert_same(overpaying(flat, mixed, {"a": 1, "b": Ratio(-1, 2), "c": Ratio(-1, 2)}), ["a", "b"])

    def test_wrong_holders(self):
        wrong = [{}, {"A": {}}, {"ann": {"x": True}}, {"ann": {"z": 1}}, {"ann": None}, {"ann": [("x", 1)]}, [("ann", {})],
                 {1: {}}, {"ann": {}, True: {}}, {"": {}}]
        for value in values_of_every_kind() + wrong:
            for moves in (TWO, RINGED):
                for call in (together, joint_cover, saved, fair_sharing):
                    self.assert_keeps(InvalidHolders, value, call, moves=moves, houses=value)
                self.assert_keeps(InvalidHolders, value, overpaying, moves, value, None)
                self.assert_keeps(InvalidHolders, value, is_fair, moves, value, None)

    def test_wrong_sharings(self):
        self.assert_same(joint_cover(TWO, BOTH), Ratio(1))
        wrong = [{"ann": 1}, {"ann": 1, "bob": 1}, {"ann": 1, "bob": False}, {"ann": 1, "bob": 0, "cy": 0}, {"ann": True, "bob": 0},
                 [("ann", 1), ("bob", 0)], {"ann": 1, "bob": None}]
        for value in values_of_every_kind() + wrong:
            self.assert_keeps(InvalidSharing, value, overpaying, TWO, BOTH, value)
            self.assert_bool(is_fair(TWO, BOTH, value), False)
            self.assert_raises(NoMove, {}, overpaying, RINGED, BOTH, value)
            self.assert_raises(WithoutEnd, {}, overpaying, moves=TWO.without(1), houses={"a": {"x": 1}}, sharing=value)
        self.assert_same(overpaying(TWO, BOTH, {"ann": Ratio(-3), "bob": 4}), ["bob"])

    def test_told_values_are_new(self):
        self.assert_all_new(lambda: [together(TWO, BOTH), fair_sharing(TWO, BOTH), overpaying(TWO, BOTH, {"ann": -3, "bob": 4})])
        fair_sharing(TWO, BOTH).clear()
        self.assertEqual(len(fair_sharing(TWO, BOTH)), 2)
        self.assertEqual(BOTH, {"ann": {"x": 1}, "bob": {"y": -1}})


if __name__ == "__main__":
    unittest.main()
