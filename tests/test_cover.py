"""[53], [54] and lateledger/cover.py."""

import unittest
from random import Random

from lateledger.cover import cover, cover_paper, family, is_cover_paper, is_family, loss, mattering, outcome
from lateledger.cover import tightened_covers, worst_move
from lateledger.errors import InvalidHoldings, InvalidMove, NoMove, WithoutEnd
from lateledger.moves import Moves, is_ring, ring
from lateledger.ratios import Ratio
from tests.changes import GOODS, grid_moves, is_cover_paper_by_sums, is_family_by_sums, keeps, loss_by_sums, some_holdings
from tests.changes import some_moves
from tests.market import ratio
from tests.support import GREAT, Checks, fraction, looks_like, values_of_every_kind

TWO = Moves(["x", "y"], [("x", None, 2), (None, "x", 3), ("y", "x", 1), ("x", "y", 1)])
RINGED = TWO + ("x", None, -4)
ONE = {"x": 2, "y": -1}


class CoverTest(Checks, unittest.TestCase):
    def check_cover(self, moves, holdings):
        told, paper, worst = cover(moves, holdings), cover_paper(moves, holdings), worst_move(moves, holdings)
        self.assertEqual(told.__class__, Ratio)
        self.assertEqual([number.__class__ for number in worst.values()], [int] * len(moves.goods()))
        self.assertEqual(list(worst), moves.goods())
        self.assertTrue(keeps(moves.conditions(), worst))
        self.assertEqual(loss_by_sums(holdings, worst), fraction(told))
        self.assert_same(loss(moves, holdings, worst), told)
        self.assertTrue(is_cover_paper_by_sums(moves, holdings, paper))
        self.assert_bool(is_cover_paper(moves, holdings, paper), True)
        self.assertEqual(loss_by_sums(holdings, paper[0]), fraction(told))
        self.assertTrue(all(number.__class__ is Ratio for number in [*paper[0].values(), *paper[1]]))
        self.assertEqual([part.__class__ for part in paper], [dict, list])
        self.assertIsNone(family(moves, holdings))
        self.assert_told_short(paper)

    def test_just_one_of_a_ring_a_family_a_cover(self):
        source, counts = Random(411), {"ring": 0, "family": 0, "cover": 0}
        for _ in range(250):
            moves = some_moves(source, 4, 10)
            holdings = some_holdings(source, moves.goods())
            told = outcome(moves, holdings)
            counts[told] += 1
            self.assert_bool(told == "ring", ring(moves) is not None)
            if told == "ring":
                self.assert_bool(is_ring(moves, ring(moves)), True)
                for call in (cover, worst_move, cover_paper, family, tightened_covers, mattering):
                    self.assert_raises(NoMove, {}, call, moves, holdings)
            elif told == "family":
                paper = family(moves, holdings)
                self.assertTrue(is_family_by_sums(moves, holdings, paper))
                self.assert_bool(is_family(moves, holdings, paper), True)
                self.assertTrue(all(number.__class__ is Ratio for part in paper for number in part.values()))
                self.assertEqual([list(part) for part in paper], [moves.goods()] * 2)
                for call in (cover, worst_move, cover_paper, tightened_covers, mattering):
                    self.assert_raises(WithoutEnd, {}, call, moves, holdings)
            else:
                self.check_cover(moves, holdings)
        self.assertGreater(min(counts.values()), 20)

    def test_covers_against_all_moves(self):
        source = Random(412)
        for _ in range(60):
            moves = some_moves(source, 2, 6)
            holdings = some_holdings(source, moves.goods())
            if outcome(moves, holdings) == "cover":
                most = max(loss_by_sums(holdings, changes) for changes in grid_moves(moves, 9))
                self.assert_same(cover(moves, holdings), ratio(most))

    def test_tightened_and_mattering(self):
        source = Random(413)
        for _ in range(120):
            moves = some_moves(source, 3, 8)
            holdings = some_holdings(source, moves.goods())
            if outcome(moves, holdings) != "cover":
                continue
            covers, matters = tightened_covers(moves, holdings), mattering(moves, holdings)
            self.assertEqual(len(covers), len(moves))
            for at in range(len(moves)):
                tight = moves.tightened(at)
                self.assert_same(covers[at], None if ring(tight) else cover(tight, holdings))
                left = moves.without(at)
                changes = outcome(left, holdings) == "family" or cover(left, holdings) != cover(moves, holdings)
                self.assert_bool(at in matters, changes)
            self.assertEqual(matters, sorted(matters))
        self.assert_same(mattering(TWO, ONE), [1, 2])
        tight = Moves(["x"], [("x", None, 0), (None, "x", 0)])
        self.assert_same(tightened_covers(tight, {"x": 1}), [None, None])

    def test_empty_holdings(self):
        for holdings in ({}, {"x": 0}, {"y": Ratio(0), "x": 0}):
            self.check_cover(TWO, holdings)
            self.assert_same([cover(TWO, holdings), mattering(TWO, holdings)], [Ratio(0), []])
            self.check_cover(Moves(["x", "y"]), holdings)
            self.assert_bool(is_cover_paper(Moves(["x", "y"]), holdings, ({"x": 7, "y": -7}, [])), True)
        self.assertEqual(outcome(Moves(["x"]), {"x": Ratio(1, 9)}), "family")

    def test_wrong_holdings(self):
        wrong = [{"x": True}, {"z": 1}, {"x": 1, None: 1}, {"x": None}, [("x", 1)], {"x": "1"}, {0: 1}, {True: 0}]
        for value in [one for one in values_of_every_kind() if not looks_like(one, {})] + wrong:
            for moves in (TWO, RINGED):
                for call in (outcome, cover, worst_move, cover_paper, family, tightened_covers, mattering):
                    self.assert_keeps(InvalidHoldings, value, call, moves=moves, holdings=value)
                self.assert_keeps(InvalidHoldings, value, loss, moves, value, None)
                self.assert_keeps(InvalidHoldings, value, is_cover_paper, moves, value, None)
                self.assert_keeps(InvalidHoldings, value, is_family, moves, value, None)

    def test_wrong_moves(self):
        for value in values_of_every_kind() + [{"x": 3, "y": 3}, {"x": 0}, {"x": 0, "y": True}, {"x": 0, "y": 0, "z": 0}]:
            self.assert_keeps(InvalidMove, value, loss, TWO, ONE, value)
        self.assert_same(loss(TWO, {"x": Ratio(1, 2)}, {"x": Ratio(1, 3), "y": 0}), Ratio(-1, 6))

    def test_any_cover_paper(self):
        paper = ({"x": -3, "y": -2}, [0, 1, 1, 0])
        self.assert_bool(is_cover_paper(TWO, ONE, paper), True)
        self.assert_bool(is_cover_paper(TWO, ONE, (paper[0], tuple(paper[1]))), True)
        for value in values_of_every_kind():
            self.assert_bool(is_cover_paper(TWO, ONE, value), False)
            self.assert_bool(is_cover_paper(TWO, ONE, (value, paper[1])), False)
            self.assert_bool(is_cover_paper(TWO, ONE, (paper[0], value)), False)
        for wrong in (list(paper), (*paper, 0), ({"x": -3, "y": -3}, paper[1]), ({"x": -4, "y": -3}, paper[1]),
                      (paper[0], [0, 1, 1]), (paper[0], [0, 1, 1, 0, 0]), (paper[0], [0, 1, True, 0]), (paper[0], [0, 1, 2, 1]),
                      (paper[0], [0, 1, 1, -1]), ({"x": -3, "y": -2, "z": 0}, paper[1]), ({"x": -3}, paper[1]),
                      (paper[0], [1, 2, 1, 0]), (paper[0], {0: 0, 1: 1, 2: 1, 3: 0})):
            self.assert_bool(is_cover_paper(TWO, ONE, wrong), False)
        self.assert_bool(is_cover_paper(RINGED, ONE, (paper[0], [0, 1, 1, 0, 0])), False)
        twice = Moves(["x"], [(None, "x", 2), (None, "x", 2), ("x", None, 1)])
        for weights, wanted in (([1, 0, 0], True), ([Ratio(1, 3), Ratio(2, 3), 0], True), ([2, -1, 0], False), ([0, 0, 0], False)):
            self.assert_bool(is_cover_paper(twice, {"x": 1}, ({"x": -2}, weights)), wanted)
        source = Random(414)
        for _ in range(150):
            moves = some_moves(source, 2, 4, 2)
            holdings = {good: source.randint(-1, 1) for good in moves.goods()}
            told = ({good: source.randint(-2, 2) for good in moves.goods()},
                    [source.choice([0, 0, 1, Ratio(1)]) for _ in moves.conditions()])
            self.assert_bool(is_cover_paper(moves, holdings, told), is_cover_paper_by_sums(moves, holdings, told))

    def test_any_family(self):
        open_moves = Moves(["x", "y"], [("x", "y", 0)])
        paper = ({"x": 0, "y": 0}, {"x": -1, "y": 0})
        self.assert_bool(is_family(open_moves, {"x": 1}, paper), True)
        for value in values_of_every_kind():
            self.assert_bool(is_family(open_moves, {"x": 1}, value), False)
            self.assert_bool(is_family(open_moves, {"x": 1}, (value, paper[1])), False)
            self.assert_bool(is_family(open_moves, {"x": 1}, (paper[0], value)), False)
        for wrong in (list(paper), (*paper, 0), ({"x": 1, "y": 0}, paper[1]), (paper[0], {"x": -1}), (paper[0], {"x": 1, "y": 1}),
                      (paper[0], {"x": -1, "y": -2}), (paper[0], {"x": 0, "y": 0}), (paper[0], {"x": -1, "y": False})):
            self.assert_bool(is_family(open_moves, {"x": 1}, wrong), False)
        self.assert_bool(is_family(TWO, ONE, ({"x": 0, "y": 0}, {"x": 0, "y": 0})), False)
        self.assert_bool(is_family(RINGED, ONE, paper), False)

    def test_great_numbers(self):
        source = Random(415)
        places = [None, *GOODS]
        pairs = [(one, other) for one in places for other in places if one != other]
        for _ in range(10):
            moves = Moves(GOODS, [(*source.choice(pairs), source.randint(0, GREAT)) for _ in range(24)])
            holdings = {good: Ratio(source.randint(-GREAT, GREAT), source.randint(1, GREAT)) for good in GOODS}
            if outcome(moves, holdings) == "cover":
                self.check_cover(moves, holdings)
            else:
                self.assertTrue(is_family_by_sums(moves, holdings, family(moves, holdings)))

    def test_told_values_are_new(self):
        self.assert_all_new(lambda: [worst_move(TWO, ONE), cover_paper(TWO, ONE), family(TWO.without(1), {"x": 1}),
                                     tightened_covers(TWO, ONE), mattering(TWO, ONE)])
        worst_move(TWO, ONE).clear()
        cover_paper(TWO, ONE)[1].clear()
        self.assertEqual(worst_move(TWO, ONE), {"x": -3, "y": -2})


if __name__ == "__main__":
    unittest.main()
