"""[12] and the part "lateledger/systems.py": System."""

import unittest

from lateledger.errors import InvalidEnds, InvalidPlace, InvalidRow, InvalidRows, InvalidUnknowns, InvalidValues, TooMany
from lateledger.ratios import Ratio
from lateledger.systems import System
from tests.support import GREAT, Checks, looks_like, values_of_every_kind

HALF = Ratio(1, 2)
UNKNOWNS = [(0, None), (None, 5), (None, None), (-1, HALF)]
ROWS = [([1, 0, -1, HALF], "at most", 3), ((0, 2, 0, 0), "equals", Ratio(-7, 3))]
TOLD_UNKNOWNS = [(Ratio(0), None), (None, Ratio(5)), (None, None), (Ratio(-1), HALF)]
TOLD_ROWS = [([Ratio(1), Ratio(0), Ratio(-1), HALF], "at most", Ratio(3)),
             ([Ratio(0), Ratio(2), Ratio(0), Ratio(0)], "equals", Ratio(-7, 3))]

WRONG_UNKNOWNS = [
    [0, 1], (0,), (0, 1, 2), (), (1, 0), (HALF, Ratio(1, 3)), (Ratio(1), 0), (True, None), (None, False), (False, True),
    ("0", None), (None, "1"), (0, [1]), ((0, 1), None), None, 0, "01", {0: 1}, (GREAT, GREAT - 1),
]
RIGHT_UNKNOWNS = [(None, None), (0, 0), (HALF, Ratio(2, 4)), (-1, None), (None, -1), (Ratio(1), 1), (-GREAT, GREAT),
                  (Ratio(1, 3), HALF)]
WRONG_ROWS = [
    [[1, 2], "at most", 3], ([1, 2], "at most"), ([1, 2], "at most", 3, 4), ([1], "at most", 3),
    ([1, 2, 3], "at most", 3), ([], "equals", 3), ([1, True], "at most", 3), ([False, 1], "equals", 3),
    ([1, "2"], "equals", 3), ([1, None], "equals", 3), ([1, [2]], "equals", 3), ({1: 1, 2: 2}, "equals", 3),
    ("12", "equals", 3), (None, "equals", 3), (range(2), "equals", 3), ([1, 2], "at least", 3), ([1, 2], "Equals", 3),
    ([1, 2], "equals ", 3), ([1, 2], "", 3), ([1, 2], b"equals", 3), ([1, 2], ["equals"], 3), ([1, 2], None, 3),
    ([1, 2], True, 3), ([1, 2], "equals", None), ([1, 2], "equals", True), ([1, 2], "at most", False),
    ([1, 2], "equals", "3"), ([1, 2], "equals", [3]), ("equals", [1, 2], 3), None, 3, "row", (), [], {},
]
RIGHT_ROWS = [([1, 2], "equals", 3), ((1, 2), "at most", HALF), ([HALF, -GREAT], "equals", Ratio(GREAT, 7)),
              ([0, 0], "at most", -1)]


class SystemTest(Checks, unittest.TestCase):
    def test_told_parts(self):
        system = System(UNKNOWNS, ROWS)
        self.assert_same(system.unknowns(), TOLD_UNKNOWNS)
        self.assert_same(system.rows(), TOLD_ROWS)
        self.assert_same(System([(0, 1)]).rows(), [])

    def test_lists_and_tuples(self):
        one = System(tuple(UNKNOWNS), tuple(ROWS))
        self.assertEqual(one, System(UNKNOWNS, ROWS))
        self.assert_same(one.unknowns(), TOLD_UNKNOWNS)
        self.assert_same(one.rows(), TOLD_ROWS)

    def test_by_name(self):
        self.assertEqual(System(rows=ROWS, unknowns=UNKNOWNS), System(UNKNOWNS, ROWS))
        system = System([(0, 1)], [([2], "at most", 1)])
        self.assertEqual(system.bounded(high=3, low=2, place=0), system.bounded(0, 2, 3))
        self.assertEqual(system.sums(values=[1]), [Ratio(2)])
        self.assertIs(system.does_solve(value=[0]), True)

    def test_wrong_lists_of_unknowns(self):
        for value in values_of_every_kind():
            if not isinstance(value, (list, tuple)) or not value:
                self.assert_raises(InvalidUnknowns, {"position": None}, System, value)
        for value in ([], (), {(0, 1): 1}, "ab", range(3), {(0, 1)}, [(0, 1)] * 17, [None] * 17, [(0, 1)] * 40):
            self.assert_raises(InvalidUnknowns, {"position": None}, System, value)

    def test_wrong_unknowns(self):
        for value in WRONG_UNKNOWNS:
            self.assert_raises(InvalidUnknowns, {"position": 0}, System, [value])
            self.assert_raises(InvalidUnknowns, {"position": 2}, System, [(0, 1), (None, None), value, (0, 1)])
            self.assert_raises(InvalidUnknowns, {"position": 1}, System, ((0, 1), value, value, None))
        for value in values_of_every_kind():
            if not looks_like(value, (1, 2), (0, 1)):
                self.assert_raises(InvalidUnknowns, {"position": 1}, System, [(0, 1), value])
                self.assert_raises(InvalidUnknowns, {"position": 0}, System, [(0, value, 1)])
            if not isinstance(value, (int, Ratio)) and value is not None or isinstance(value, bool):
                self.assert_raises(InvalidUnknowns, {"position": 0}, System, [(value, None)])
                self.assert_raises(InvalidUnknowns, {"position": 0}, System, [(None, value)])

    def test_right_unknowns(self):
        for value in RIGHT_UNKNOWNS:
            self.assertEqual(len(System([value])), 1)
        self.assertEqual(len(System(RIGHT_UNKNOWNS)), len(RIGHT_UNKNOWNS))

    def test_one_to_sixteen_unknowns(self):
        for many in (1, 2, 15, 16):
            self.assertEqual(len(System([(0, 1)] * many)), many)

    def test_wrong_lists_of_rows(self):
        for value in values_of_every_kind():
            if not isinstance(value, (list, tuple)):
                self.assert_raises(InvalidRows, {"position": None}, System, [(0, 1), (0, 1)], value)
        self.assert_raises(InvalidRows, {"position": None}, System, [(0, 1)], None)

    def test_wrong_rows(self):
        two = [(0, None), (0, None)]
        for value in WRONG_ROWS + values_of_every_kind():
            self.assert_raises(InvalidRows, {"position": 0}, System, two, [value])
            self.assert_raises(InvalidRows, {"position": 1}, System, two, (RIGHT_ROWS[0], value, RIGHT_ROWS[0], value))
            self.assert_raises(InvalidRows, {"position": 4}, System, two, RIGHT_ROWS + [value])

    def test_right_rows(self):
        self.assertEqual(len(System([(0, None), (0, None)], RIGHT_ROWS).rows()), len(RIGHT_ROWS))

    def test_up_to_24_rows(self):
        row = ([1], "at most", 3)
        for many in (0, 1, 23, 24):
            self.assertEqual(len(System([(0, 1)], [row] * many).rows()), many)
        for many in (25, 26, 100):
            self.assert_raises(TooMany, {"what": "rows", "allowed": 24}, System, [(0, 1)], [row] * many)

    def test_first_error_of_several(self):
        row = ([1], "at most", 3)
        self.assert_raises(InvalidUnknowns, {"position": None}, System, [], None)
        self.assert_raises(InvalidUnknowns, {"position": None}, System, [(0, 1)] * 17, [row] * 25)
        self.assert_raises(InvalidUnknowns, {"position": 0}, System, [None], [None] * 25)
        self.assert_raises(InvalidRows, {"position": 25}, System, [(0, 1)], [row] * 25 + [None])
        self.assert_raises(InvalidRows, {"position": 3}, System, [(0, 1)], [row] * 3 + [([1, 2], "at most", 3)] * 30)

    def test_len_is_of_unknowns(self):
        self.assertEqual(len(System([(0, 1)] * 3, [([1, 1, 1], "equals", 1)] * 5)), 3)

    def test_plus(self):
        two = System([(0, None), (0, None)])
        for at, row in enumerate(RIGHT_ROWS):
            more = two + row
            self.assertEqual(more, System([(0, None), (0, None)], RIGHT_ROWS[:at + 1]))
            self.assertEqual(two, System([(0, None), (0, None)], RIGHT_ROWS[:at]))
            two = more

    def test_plus_of_a_wrong_row(self):
        two = System([(0, None), (0, None)], RIGHT_ROWS)
        for value in WRONG_ROWS + values_of_every_kind():
            self.assert_keeps(InvalidRow, value, lambda: two + value)
        self.assertEqual(two, System([(0, None), (0, None)], RIGHT_ROWS))

    def test_plus_up_to_24_rows(self):
        row = ([1], "at most", 3)
        system = System([(0, 1)], [row] * 23)
        full = system + row
        self.assertEqual(len(full.rows()), 24)
        self.assert_raises(TooMany, {"what": "rows", "allowed": 24}, lambda: full + row)
        self.assert_keeps(InvalidRow, None, lambda: full + None)
        self.assertEqual((len(system.rows()), len(full.rows())), (23, 24))

    def test_bounded(self):
        system = System(UNKNOWNS, ROWS)
        for place in range(4):
            for low, high in RIGHT_UNKNOWNS:
                told = [*UNKNOWNS[:place], (low, high), *UNKNOWNS[place + 1:]]
                self.assertEqual(system.bounded(place, low, high), System(told, ROWS))
        self.assertEqual(system, System(UNKNOWNS, ROWS))

    def test_bounded_with_wrong_places(self):
        system = System(UNKNOWNS, ROWS)
        for value in values_of_every_kind() + [4, -4]:
            if value.__class__ is not int or value not in range(4):
                self.assert_keeps(InvalidPlace, value, system.bounded, value, 0, 1)
                self.assert_keeps(InvalidPlace, value, system.bounded, value, 1, 0)

    def test_bounded_with_wrong_ends(self):
        system = System(UNKNOWNS, ROWS)
        for ends in ((1, 0), (True, None), (None, False), ("0", 1), (0, "1"), ([], None), (HALF, Ratio(1, 3)), ((0, 1), 2)):
            error = self.assert_raises(InvalidEnds, {"value": ends}, system.bounded, 3, *ends)
            self.assertIs(error.value[0], ends[0])
            self.assertIs(error.value[1], ends[1])
        self.assertEqual(system, System(UNKNOWNS, ROWS))

    def test_sums(self):
        system = System(UNKNOWNS, ROWS)
        self.assert_same(system.sums([1, 2, 3, 4]), [Ratio(0), Ratio(4)])
        self.assert_same(system.sums((HALF, Ratio(1, 3), -1, Ratio(-1, 5))), [Ratio(7, 5), Ratio(2, 3)])
        self.assert_same(system.sums([GREAT, GREAT, -GREAT, 2]), [Ratio(2 * GREAT + 1), Ratio(2 * GREAT)])
        self.assert_same(System([(0, 1)]).sums([3]), [])

    def test_sums_of_wrong_values(self):
        system = System(UNKNOWNS, ROWS)
        wrong = [[1, 2, 3], [1, 2, 3, 4, 5], [1, 2, 3, True], [1, 2, None, 4], ["1", 2, 3, 4], [[1], 2, 3, 4],
                 {0: 1, 1: 1, 2: 1, 3: 1}, "1234", range(4)]
        for value in wrong + values_of_every_kind():
            self.assert_keeps(InvalidValues, value, system.sums, value)
            self.assert_bool(system.does_solve(value), False)

    def test_does_solve_within_ends(self):
        for (low, high), inside, outside in (
                ((0, 5), [0, 5, HALF, Ratio(5), Ratio(9, 2)], [-1, 6, Ratio(-1, 9), Ratio(51, 10)]),
                ((None, 5), [-GREAT, 5], [6, Ratio(51, 10)]), ((0, None), [GREAT, 0], [-1, Ratio(-1, GREAT)]),
                ((None, None), [GREAT, -GREAT, 0], []), ((2, 2), [2, Ratio(4, 2)], [1, 3])):
            system = System([(low, high)])
            for number in inside:
                self.assert_bool(system.does_solve([number]), True)
                self.assert_bool(system.does_solve((number,)), True)
            for number in outside:
                self.assert_bool(system.does_solve([number]), False)

    def test_does_solve_rows(self):
        free = [(None, None), (None, None)]
        for word, below in (("equals", False), ("at most", True)):
            system = System(free, [([2, -1], word, 3)])
            self.assert_bool(system.does_solve([2, 1]), True)
            self.assert_bool(system.does_solve([Ratio(3, 2), 0]), True)
            self.assert_bool(system.does_solve([2, 2]), below)
            self.assert_bool(system.does_solve([0, 0]), below)
            self.assert_bool(system.does_solve([3, 2]), False)
            self.assert_bool(system.does_solve([2, Ratio(99, 100)]), False)

    def test_does_solve_all_rows_and_all_ends(self):
        system = System([(0, 2), (0, 2)], [([1, 1], "at most", 3), ([1, -1], "equals", 1)])
        for values, wanted in (([1, 0], True), ([2, 1], True), ([3, 2], False), ([0, -1], False), ([1, 1], False),
                               ([2, 2], False), ([Ratio(3, 2), HALF], True)):
            self.assert_bool(system.does_solve(values), wanted)

    def test_what_is_passed_is_copied(self):
        weights, unknowns = [1, 2], [(0, 1), (0, 1)]
        rows = [(weights, "at most", 3)]
        system = System(unknowns, rows)
        weights[0] = 9
        weights.append(1)
        rows.append(None)
        unknowns[0] = None
        self.assertEqual(system, System([(0, 1), (0, 1)], [([1, 2], "at most", 3)]))
        one_more, weights = ([5, 6], "equals", 1), None
        told = system + one_more
        one_more[0].append(7)
        self.assert_same(told.rows()[1][0], [Ratio(5), Ratio(6)])

    def test_what_is_told_is_new(self):
        system = System(UNKNOWNS, ROWS)
        self.assert_all_new(lambda: [system.unknowns(), system.rows(), system.sums([1, 2, 3, 4])])
        system.unknowns().clear()
        system.rows()[0][0].clear()
        system.rows().clear()
        self.assert_same([system.unknowns(), system.rows()], [TOLD_UNKNOWNS, TOLD_ROWS])

    def test_what_is_passed_is_not_changed(self):
        unknowns, rows, values = [(0, 1)], [([1], "at most", 3)], [1]
        system = System(unknowns, rows)
        self.assertEqual((system.sums(values), system.does_solve(values)), ([Ratio(1)], True))
        self.assert_same([unknowns, rows, values], [[(0, 1)], [([1], "at most", 3)], [1]])

    def test_equal(self):
        system = System(UNKNOWNS, ROWS)
        self.assertTrue(system == System(TOLD_UNKNOWNS, TOLD_ROWS))
        self.assertFalse(system != System(TOLD_UNKNOWNS, TOLD_ROWS))
        for other in (System(UNKNOWNS), System(UNKNOWNS, ROWS[::-1]), System(UNKNOWNS, ROWS[:1]), system.bounded(0, 1, None),
                      system.bounded(3, -1, 1), System(UNKNOWNS, [ROWS[0], (ROWS[1][0], "at most", ROWS[1][2])]),
                      System(UNKNOWNS, [ROWS[0], (ROWS[1][0], "equals", 1)]),
                      System(UNKNOWNS, [ROWS[0], ([1, 2, 0, 0], "equals", Ratio(-7, 3))]), System(UNKNOWNS[::-1], ROWS)):
            self.assertFalse(system == other)
            self.assertTrue(system != other)
        for value in values_of_every_kind() + [(UNKNOWNS, ROWS)]:
            self.assertIs(system == value, False)

    def test_repr(self):
        self.assertEqual(repr(System([(0, None)], [([1], "at most", 3)])),
                         "System([(Ratio(0, 1), None)], [([Ratio(1, 1)], 'at most', Ratio(3, 1))])")
        self.assertEqual(repr(System([(None, HALF), (0, 1)])),
                         "System([(None, Ratio(1, 2)), (Ratio(0, 1), Ratio(1, 1))], [])")

    def test_not_iterated_over(self):
        with self.assertRaises(TypeError):
            list(System([(0, 1)]))


if __name__ == "__main__":
    unittest.main()
