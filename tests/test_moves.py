"""[51], [52], [54] and lateledger/moves.py."""

import unittest
from random import Random

from lateledger.errors import InvalidCondition, InvalidConditions, InvalidGoods, InvalidMove, InvalidPair, InvalidPosition
from lateledger.errors import NoMove, OtherGoods, TooMany
from lateledger.moves import Moves, are_alike, broken, chain, is_move, is_ring, lean, needless, parting, ring, some_move
from lateledger.moves import tightest
from lateledger.ratios import Ratio
from tests.changes import all_chains, ends_of_chain, grid_moves, keeps, least_chain, least_ring, some_moves, sum_of_chain
from tests.support import GREAT, Checks, looks_like, values_of_every_kind

TWO = Moves(["y", "x"], [("x", None, 2), (None, "x", 3), ("y", "x", 1), ("x", "y", 1)])
RINGED = Moves(["x"], [("x", None, -1), (None, "x", 0)])
WRONG = [("x", "x", 1), (None, None, 1), ("x", "z", 1), ("z", "x", 1), ("x", "y"), ("x", "y", 1, 1), ["x", "y", 1],
         ("x", "y", True), ("x", "y", None), ("x", "y", Ratio(1)), ("x", "y", "1"), (0, "x", 1), ("x", False, 1), ("x", [], 1)]


def implies(conditions, goods, condition):
    """Whether all moves of some conditions keep one more, by all chains."""
    moves = Moves(goods, conditions)
    if least_ring(moves) is not None:
        return True
    least, _ = least_chain(moves, condition[0], condition[1])
    return least is not None and least <= condition[2]


class MovesTest(Checks, unittest.TestCase):
    def test_told_parts(self):
        self.assert_same([TWO.goods(), TWO.conditions(), len(TWO)],
                         [["x", "y"], [("x", None, 2), (None, "x", 3), ("y", "x", 1), ("x", "y", 1)], 4])
        self.assertEqual(repr(TWO.without(1).without(2).without(1)), "Moves(['x', 'y'], [('x', None, 2)])")
        self.assert_same(Moves(goods=("x",), conditions=(("x", None, -GREAT),)).conditions(), [("x", None, -GREAT)])
        self.assert_same([Moves(["x"]).conditions(), len(Moves(["x"]))], [[], 0])
        self.assert_same((Moves(["x"]) + ("x", None, 0) + ("x", None, 0)).conditions(), [("x", None, 0), ("x", None, 0)])

    def test_wrong_goods(self):
        for value in values_of_every_kind():
            if not isinstance(value, (list, tuple)) or len(value) == 0:
                self.assert_raises(InvalidGoods, {"position": None}, Moves, value)
            if not looks_like(value, "a", "tea", "abcdefgh", "equals"):
                self.assert_raises(InvalidGoods, {"position": 1}, Moves, ["x", value, "x"], None)
        for wrong in ("coin", "hall", "outside", "x", "X", "abcdefghi"):
            self.assert_raises(InvalidGoods, {"position": 2}, Moves, ("x", "y", wrong, "y"))
        self.assert_raises(TooMany, {"what": "goods", "allowed": 4}, Moves, ["a", "b", "c", "d", "e"], [("a", "b", 0)] * 25)
        self.assert_raises(InvalidConditions, {"position": 25}, Moves, ["a", "b", "c", "d", "e"], [("a", "b", 0)] * 25 + [1])

    def test_wrong_conditions(self):
        for value in values_of_every_kind() + WRONG:
            if not isinstance(value, (list, tuple)):
                self.assert_raises(InvalidConditions, {"position": None}, Moves, ["x", "y"], value)
            self.assert_raises(InvalidConditions, {"position": 1}, Moves, ["x", "y"], [("x", "y", 1), value, value])
            self.assert_keeps(InvalidCondition, value, lambda: TWO + value)
        full = Moves(["x", "y"], [("x", "y", 1)] * 24)
        self.assert_raises(TooMany, {"what": "conditions", "allowed": 24}, Moves, ["x", "y"], [("x", "y", 1)] * 25)
        self.assert_raises(TooMany, {"what": "conditions", "allowed": 24}, lambda: full + ("x", "y", 1))
        self.assert_keeps(InvalidCondition, None, lambda: full + None)
        self.assertEqual(len(full.without(23) + ("x", None, 1)), 24)

    def test_positions(self):
        self.assert_same(TWO.tightened(0).conditions()[0], ("x", None, 1))
        self.assert_same(TWO.tightened(position=3), Moves(["x", "y"], TWO.conditions()[:3] + [("x", "y", 0)]))
        self.assert_same(TWO.without(position=0), Moves(["x", "y"], TWO.conditions()[1:]))
        for value in values_of_every_kind() + [4, -1]:
            if not (value.__class__ is int and 0 <= value < 4):
                self.assert_keeps(InvalidPosition, value, TWO.without, value)
                self.assert_keeps(InvalidPosition, value, TWO.tightened, value)

    def test_equal(self):
        self.assertTrue(TWO == Moves(["x", "y"], TWO.conditions()))
        for other in (TWO.without(0), TWO.tightened(0), Moves(["x", "y"], TWO.conditions()[::-1]),
                      Moves(["x", "y", "z"], TWO.conditions())):
            self.assertTrue(TWO != other)
        for value in values_of_every_kind():
            self.assert_bool(TWO == value, False)

    def test_it_never_changes(self):
        goods, conditions = ["x", "y"], [("x", "y", 1)]
        told = Moves(goods, conditions)
        goods.clear()
        conditions.clear()
        told.goods().clear()
        told.conditions().clear()
        self.assertEqual(told, Moves(["y", "x"], [("x", "y", 1)]))
        self.assert_all_new(lambda: [TWO.goods(), TWO.conditions(), broken(TWO, {"x": 9, "y": 0}), some_move(TWO),
                                     ring(RINGED), chain(TWO, "y", None), needless(TWO), parting(TWO, TWO.without(0))])

    def test_rings_and_moves_against_all_chains(self):
        source = Random(401)
        for _ in range(200):
            moves = some_moves(source)
            wanted, told = least_ring(moves), some_move(moves)
            self.assert_same(ring(moves), wanted)
            self.assert_bool(told is None, wanted is not None)
            if told is not None:
                self.assertEqual([number.__class__ for number in told.values()], [int] * len(moves.goods()))
                self.assertEqual(list(told), moves.goods())
                self.assertTrue(keeps(moves.conditions(), told))
                self.assert_bool(is_move(moves, told), True)
            else:
                self.assertEqual(list(grid_moves(moves, 4)), [])

    def test_chains_against_all_chains(self):
        source = Random(402)
        for _ in range(120):
            moves = some_moves(source, size=4)
            places = [None, *moves.goods()]
            for first in places:
                for second in places:
                    if first == second:
                        self.assert_raises(InvalidPair, {"value": (first, second)}, tightest, moves, first, second)
                    elif ring(moves) is not None:
                        self.assert_raises(NoMove, {}, tightest, moves, first, second)
                        self.assert_raises(NoMove, {}, chain, moves, first, second)
                    else:
                        least, told = least_chain(moves, first, second)
                        self.assert_same(tightest(moves, first, second), least)
                        self.assert_same(chain(moves, first, second), told)

    def test_tightest_bounds_are_reached(self):
        source = Random(403)
        for _ in range(40):
            moves = some_moves(source, 2, 6)
            if ring(moves) is None:
                told = [{**changes, None: 0} for changes in grid_moves(moves, 9)]
                for first in [None, *moves.goods()]:
                    for second in [None, *moves.goods()]:
                        if first != second and tightest(moves, first, second) is not None:
                            most = max(changes[first] - changes[second] for changes in told)
                            self.assertEqual(most, tightest(moves, first, second))

    def test_is_ring(self):
        source = Random(404)
        for _ in range(40):
            moves = some_moves(source, 2, 5)
            chains = [list(one) for one in all_chains(moves, 4)]
            for told in chains[:200]:
                one, other = ends_of_chain(moves, told)
                self.assert_bool(is_ring(moves, told), one == other and sum_of_chain(moves, told) < 0)
                self.assert_bool(is_ring(moves, tuple(told)), one == other and sum_of_chain(moves, told) < 0)
        self.assert_bool(is_ring(RINGED, [0, 1]), True)
        self.assert_bool(is_ring(RINGED, [1, 0, 1, 0]), True)
        for wrong in values_of_every_kind() + [[0], [0, 0], [1, 0, 1], [0, True], [False, 1], [0, 2], [0, -1], {0: 1, 1: 0},
                                               [0, Ratio(1)], [0, [1]]]:
            self.assert_bool(is_ring(RINGED, wrong), False)
        self.assert_bool(is_ring(TWO, [0, 1]), False)
        four = Moves(["x", "y", "z"], [("x", "y", 0), ("y", "z", 0), ("z", None, 0), (None, "x", -1), ("z", "x", -1)])
        for told in ([0, 1, 4], [1, 4, 0], [0, 1, 2, 3], [3, 0, 1, 2], [0, 1, 4, 0, 1, 2, 3]):
            self.assert_bool(is_ring(four, told), True)
        for told in ([0, 1, 2], [0, 1, 3], [0, 4, 1], [1, 2, 3], [0, 1, 4, 1], [4, 0, 4, 0]):
            self.assert_bool(is_ring(four, told), False)

    def test_broken_and_is_move(self):
        source = Random(405)
        for _ in range(80):
            moves = some_moves(source)
            changes = {good: source.choice([source.randint(-3, 3), Ratio(source.randint(-6, 6), 2)]) for good in moves.goods()}
            wanted = [at for at, condition in enumerate(moves.conditions()) if not keeps([condition], changes)]
            self.assert_same(broken(moves, changes), wanted)
            self.assert_bool(is_move(moves, changes), not wanted)
        for value in values_of_every_kind() + [{"x": 0}, {"x": 0, "y": True}, {"x": 0, "y": 0, "z": 0}, {"x": 0, "y": None},
                                               {"x": 0, None: 0}, [("x", 0), ("y", 0)]]:
            self.assert_bool(is_move(TWO, value), False)
            self.assert_keeps(InvalidMove, value, broken, moves=TWO, move=value)

    def test_wrong_pairs(self):
        for value in values_of_every_kind():
            if value is not None:
                for pair in ((value, "x"), (None, value), (value, value)):
                    error = self.assert_raises(InvalidPair, {"value": pair}, tightest, TWO, *pair)
                    self.assertIs(error.value[0], pair[0])
                    self.assert_raises(InvalidPair, {"value": pair}, chain, RINGED, *pair)
        self.assert_raises(InvalidPair, {"value": ("x", "x")}, chain, moves=RINGED, first="x", second="x")
        self.assertIsNone(tightest(Moves(["x", "y"], [("x", "y", 1)]), "y", "x"))
        self.assertIsNone(chain(Moves(["x", "y"], [("x", "y", 1)]), "x", None))

    def test_needless_and_lean(self):
        source = Random(406)
        for _ in range(80):
            moves = some_moves(source, most_conditions=7)
            goods, conditions = moves.goods(), moves.conditions()
            wanted = [at for at, condition in enumerate(conditions)
                      if implies(conditions[:at] + conditions[at + 1:], goods, condition)]
            self.assert_same(needless(moves), wanted)
            left = list(conditions)
            for at in reversed(range(len(conditions))):
                if implies(left[:at] + left[at + 1:], goods, left[at]):
                    del left[at]
            self.assertEqual(lean(moves), Moves(goods, left))
            self.assert_bool(are_alike(moves, lean(moves)), True)
            self.assertEqual(needless(lean(moves)), [])
        twice = Moves(["x"], [("x", None, 1), ("x", None, 1), ("x", None, 2)])
        self.assert_same([needless(twice), lean(twice).conditions()], [[0, 1, 2], [("x", None, 1)]])
        ringed = Moves(["x"], [("x", None, -1), (None, "x", 0), ("x", None, 5)])
        self.assert_same([needless(ringed), lean(ringed).conditions()], [[2], ringed.conditions()[:2]])

    def test_partings(self):
        source = Random(407)
        for _ in range(150):
            one, other = some_moves(source, 2, 4, 2), some_moves(source, 2, 4, 2)
            if one.goods() != other.goods():
                goods = {"one": one.goods(), "other": other.goods()}
                self.assert_raises(OtherGoods, goods, are_alike, one, other)
                self.assert_raises(OtherGoods, goods, parting, one=one, other=other)
                continue
            told = parting(one, other)
            self.assert_bool(are_alike(one, other), told is None)
            if told is None:
                self.assertEqual(list(grid_moves(one, 6)), list(grid_moves(other, 6)))
            else:
                self.assertEqual(sorted(told), one.goods())
                self.assertEqual([number.__class__ for number in told.values()], [Ratio] * len(told))
                self.assertNotEqual(keeps(one.conditions(), told), keeps(other.conditions(), told))
        self.assert_bool(are_alike(RINGED, Moves(["x"], [(None, "x", -1), ("x", None, 0)])), True)
        self.assert_bool(are_alike(RINGED, Moves(["x"])), False)
        full = Moves(["x", "y"], [("x", "y", 1)] * 24)
        self.assert_bool(are_alike(full, Moves(["x", "y"], [("x", "y", 0)] * 24)), False)

    def test_four_goods_and_24_conditions(self):
        source = Random(408)
        places = [None, "x", "y", "z", "u"]
        pairs = [(one, other) for one in places for other in places if one != other]
        hidden = {None: 0, **{good: source.randint(-GREAT, GREAT) for good in places[1:]}}
        conditions = [(one, other, hidden[one] - hidden[other] + source.randint(0, 10)) for one, other in pairs + pairs[:4]]
        moves = Moves(places[1:], conditions)
        self.assertEqual(len(moves), 24)
        self.assert_bool(is_move(moves, some_move(moves)), True)
        for first, second in pairs:
            told = chain(moves, first, second)
            self.assertEqual(sum_of_chain(moves, told), tightest(moves, first, second))
            self.assertEqual(least_chain(moves, first, second), (tightest(moves, first, second), told))
        ringed = moves.without(0) + (None, "x", -hidden["x"] - GREAT)
        self.assertEqual(ring(ringed), least_ring(ringed))


if __name__ == "__main__":
    unittest.main()
