"""[41], [42] and lateledger/lines.py."""

import unittest
from random import Random

from lateledger.errors import InvalidLine, InvalidLines, InvalidOwed, InvalidPayments, TooMany, UnknownLine
from lateledger.lines import Clearing, cost, does_fit, paid, rest, volume
from lateledger.ratios import Ratio
from tests.support import GREAT, Checks, looks_like, values_of_every_kind
from tests.trust import all_payments, cost_by_sums, fits, paid_by_sums, some_clearing, volume_by_sums
from tests.market import ratio, ratios

HALL = Clearing({"a": 4, "b": -3, "c": -1}, [("a", "c", 2, 0), ("a", "b", 2, 1)])
EIGHT = {house: 0 for house in "abcdefgh"}
PAIRS = [(one, other) for one in "abcdefgh" for other in "abcdefgh" if one != other]
FULL = [(one, other, 1, 0) for one, other in PAIRS[:24]]
WRONG_LINES = [("a", "b", 1), ("a", "b", 1, 1, 1), ["a", "b", 1, 1], ("a", "a", 1, 1), ("a", "z", 1, 1), ("z", "a", 1, 1),
               ("a", "b", -1, 1), ("a", "b", 1, -1), ("a", "b", True, 1), ("a", "b", 1, False), ("a", "b", Ratio(1), 1),
               ("a", "b", 1, Ratio(0)), ("a", None, 1, 1), (1, "b", 1, 1), ("a", "b", None, 1), ("a", ["b"], 1, 1)]


class LinesTest(Checks, unittest.TestCase):
    def test_told_parts(self):
        self.assert_same([HALL.houses(), HALL.owed(), HALL.lines(), HALL.all_owed(), len(HALL)],
                         [["a", "b", "c"], {"a": Ratio(4), "b": Ratio(-3), "c": Ratio(-1)},
                          [("a", "b", 2, 1), ("a", "c", 2, 0)], Ratio(4), 2])
        one = Clearing({"hall": 0})
        self.assert_same([one.houses(), one.owed(), one.lines(), one.all_owed(), len(one)],
                         [["hall"], {"hall": Ratio(0)}, [], Ratio(0), 0])
        half = Clearing(owed={"b": Ratio(-1, 2), "a": Ratio(1, 2)}, lines=(("a", "b", 0, 0), ("b", "a", GREAT, GREAT)))
        self.assert_same(half.all_owed(), Ratio(1, 2))
        self.assert_same([Clearing.MOST_HOUSES, Clearing.MOST_LINES, HALL.MOST_HOUSES], [8, 24, 8])
        self.assertEqual(repr(HALL), "Clearing({'a': Ratio(4, 1), 'b': Ratio(-3, 1), 'c': Ratio(-1, 1)}, "
                                     "[('a', 'b', 2, 1), ('a', 'c', 2, 0)])")
        self.assertEqual(repr(Clearing({"b": Ratio(-2), "a": 2}, [("a", "b", 5, 1)])),
                         "Clearing({'a': Ratio(2, 1), 'b': Ratio(-2, 1)}, [('a', 'b', 5, 1)])")

    def test_wrong_owed(self):
        wrong = [{"a": 1}, {"a": 1, "b": -2}, {"a": 0, "B": 0}, {"a": True, "b": -1}, {"a": False}, {1: 0}, {"": 0},
                 {"a": None}, [("a", 0)], {"a": Ratio(1, 2), "b": Ratio(-1, 3)}]
        for value in [one for one in values_of_every_kind() if not looks_like(one, {"tea": 0})] + wrong:
            self.assert_keeps(InvalidOwed, value, Clearing, value)
            self.assert_keeps(InvalidOwed, value, Clearing, value, None)
            self.assert_keeps(InvalidOwed, value, HALL.with_owed, value)
        for value in ({"a": 0, "b": 0}, {"a": 0, "b": 0, "d": 0}, {"a": 0, "b": 0, "c": 0, "d": 0}):
            self.assert_keeps(InvalidOwed, value, HALL.with_owed, owed=value)

    def test_wrong_lines(self):
        for value in values_of_every_kind():
            if not isinstance(value, (list, tuple)):
                self.assert_raises(InvalidLines, {"position": None}, Clearing, {"a": 0}, value)
            self.assert_raises(InvalidLines, {"position": 1}, Clearing, {"a": 0, "b": 0}, [("a", "b", 1, 1), value])
            self.assert_keeps(InvalidLine, value, lambda: HALL + value)
            self.assert_keeps(UnknownLine, value, lambda: HALL - value)
            self.assert_bool(value in HALL, False)
        for value in WRONG_LINES:
            self.assert_raises(InvalidLines, {"position": 1}, Clearing, {"a": 0, "b": 0}, (("b", "a", 1, 1), value, value))
            self.assert_keeps(InvalidLine, value, lambda: HALL + value)
        self.assert_raises(InvalidLines, {"position": 2}, Clearing, {"a": 0, "b": 0},
                           [("a", "b", 1, 1), ("b", "a", 1, 1), ("a", "b", 2, 2), None])

    def test_too_many(self):
        nine = {**EIGHT, "i": 0}
        self.assert_raises(TooMany, {"what": "houses", "allowed": 8}, Clearing, nine)
        more = FULL + [(*PAIRS[24], 1, 0)]
        self.assert_raises(TooMany, {"what": "houses", "allowed": 8}, Clearing, nine, more)
        self.assert_raises(TooMany, {"what": "lines", "allowed": 24}, Clearing, EIGHT, more)
        self.assert_raises(InvalidLines, {"position": 25}, Clearing, nine, more + [None])
        self.assert_raises(InvalidOwed, {"value": {"a": 1}}, Clearing, {"a": 1}, more)
        full = Clearing(EIGHT, FULL)
        self.assertEqual(len(full), 24)
        self.assert_raises(TooMany, {"what": "lines", "allowed": 24}, lambda: full + more[-1])
        self.assert_raises(InvalidLine, {"value": None}, lambda: full + None)
        self.assertEqual((full + (*PAIRS[3], 9, 9)).lines()[3], (*PAIRS[3], 9, 9))

    def test_lines_more_and_less(self):
        more = HALL + ("c", "b", 3, 2)
        self.assert_same(more.lines(), [("a", "b", 2, 1), ("a", "c", 2, 0), ("c", "b", 3, 2)])
        other = HALL + ("a", "b", 0, 7)
        self.assert_same(other.lines(), [("a", "b", 0, 7), ("a", "c", 2, 0)])
        self.assertEqual(HALL.lines(), [("a", "b", 2, 1), ("a", "c", 2, 0)])
        self.assertEqual(more - ("c", "b", 3, 2), HALL)
        self.assert_same((HALL - ("a", "b", 2, 1)).lines(), [("a", "c", 2, 0)])
        for wrong in (("a", "b", 2, 0), ("a", "b", 3, 1), ("b", "a", 2, 1), ["a", "b", 2, 1], ("a", "b"), ("a", "b", 2, True)):
            self.assert_keeps(UnknownLine, wrong, lambda: HALL - wrong)
            self.assert_bool(wrong in HALL, False)
        self.assert_bool(("a", "b", 2, 1) in HALL, True)

    def test_owed_anew(self):
        told = HALL.with_owed({"c": 2, "a": 0, "b": -2})
        self.assertEqual(told, Clearing({"a": 0, "b": -2, "c": 2}, HALL.lines()))
        self.assertEqual(HALL.owed()["a"], Ratio(4))

    def test_equal(self):
        self.assertTrue(HALL == Clearing({"c": Ratio(-1), "b": -3, "a": 4}, HALL.lines()[::-1]))
        for other in (HALL - ("a", "b", 2, 1), HALL + ("a", "b", 2, 2), HALL.with_owed({"a": 4, "b": -2, "c": -2})):
            self.assertTrue(HALL != other)
        for value in values_of_every_kind():
            self.assert_bool(HALL == value, False)

    def test_it_never_changes(self):
        owed, lines = {"a": 1, "b": -1}, [("a", "b", 1, 1)]
        told = Clearing(owed, lines)
        owed["a"] = 5
        lines.clear()
        told.owed()["a"] = 9
        told.lines().clear()
        told.houses().clear()
        self.assertEqual(told, Clearing({"a": 1, "b": -1}, [("a", "b", 1, 1)]))
        self.assert_all_new(lambda: [HALL.owed(), HALL.lines(), HALL.houses(), paid(HALL, [1, 1]), rest(HALL, [1, 1])])

    def test_payments_by_their_sums(self):
        source = Random(321)
        for _ in range(60):
            hall = some_clearing(source)
            for payments in all_payments(hall)[-6:]:
                sums = paid_by_sums(hall, payments)
                self.assert_bool(does_fit(hall, payments), True)
                self.assert_same(paid(hall, payments), ratios(sums))
                self.assert_same(rest(hall, payments), {house: hall.owed()[house] - ratio(sums[house]) for house in sums})
                self.assert_same(volume(hall, payments), ratio(volume_by_sums(hall, payments)))
                self.assert_same(cost(hall, payments), ratio(cost_by_sums(hall, payments)))
            for _ in range(8):
                told = [Ratio(source.randint(-1, 6), source.randint(1, 2)) for _ in hall.lines()]
                self.assert_bool(does_fit(hall, told), fits(hall, told))
                if not fits(hall, told):
                    for call in (paid, rest, volume, cost):
                        self.assert_keeps(InvalidPayments, told, call, hall, told)

    def test_wrong_payments(self):
        wrong = [[1], [1, 1, 1], [True, 1], [1, None], {0: 1, 1: 1}, [3, 0], [-1, 1], [0, 2], [1, Ratio(3, 2)], "11"]
        for value in values_of_every_kind() + wrong:
            if not looks_like(value, (1, 2)):
                self.assert_bool(does_fit(HALL, value), False)
                for call in (paid, rest, volume, cost):
                    self.assert_keeps(InvalidPayments, value, call, clearing=HALL, payments=value)
        self.assert_bool(does_fit(HALL, (2, Ratio(1))), True)
        chain = Clearing({"a": 1, "b": 0, "c": -1}, [("a", "b", 2, 0), ("b", "c", 2, 0)])
        self.assert_bool(does_fit(chain, [1, 1]), True)
        self.assert_bool(does_fit(chain, [1, 0]), False)
        self.assert_bool(does_fit(chain, [2, 2]), False)
        owed = Clearing({"a": 3, "b": -2, "c": -1}, [("c", "b", 1, 0), ("b", "a", 1, 0)])
        self.assert_bool(does_fit(owed, [0, 0]), True)
        self.assert_bool(does_fit(owed, [0, 1]), False)
        self.assert_bool(does_fit(owed, [1, 0]), False)


if __name__ == "__main__":
    unittest.main()
