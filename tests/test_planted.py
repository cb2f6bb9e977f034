"""[2]: OPEN results have no more than 500 digits where a short one is known; systems of long Ratios around one."""

import unittest
from random import Random
from unittest import mock

from lateledger.best import bar, best, is_bar, is_best, is_way, outcome, solution, way
from lateledger.systems import System
from tests.linear import bars, grid_values, leads, solves, some_aims, some_system, supports
from tests.planted import great, some_barred, some_barred_by_all, some_best, some_solved, some_solved_by_parts, some_way
from tests.support import GREAT, Checks


class PlantedTest(Checks, unittest.TestCase):
    def test_solutions(self):
        for seed in range(12):
            system, values = some_solved(Random(seed))
            self.assertTrue(solves(system, values))
            told = solution(system)
            self.assertTrue(solves(system, told))
            self.assert_told_short(told)
            self.assertEqual(solution(system), told)

    def test_best(self):
        for seed in range(20):
            system, aims, short = some_best(Random(seed))
            self.assert_bool(is_best(system, aims, short), True)
            told = best(system, aims)
            self.assertTrue(supports(system, aims, *told))
            self.assert_told_short(told)

    def test_bars(self):
        for seed in range(16):
            system, short = some_barred(Random(seed))
            self.assert_bool(is_bar(system, short), True)
            told = bar(system)
            self.assertTrue(bars(system, told))
            self.assert_told_short(told)

    def test_rows_and_unknowns_times_long_numbers(self):
        for seed in range(6):
            system, short = some_barred_by_all(Random(seed))
            self.assert_bool(is_bar(system, short), True)
            told = bar(system)
            self.assertTrue(bars(system, told))
            self.assert_told_short(told)
            system, values = some_solved_by_parts(Random(seed))
            self.assertTrue(solves(system, values))
            told = solution(system)
            self.assertTrue(solves(system, told))
            self.assert_told_short(told)

    def test_ways(self):
        for seed in range(10):
            system, aims, short = some_way(Random(seed))
            self.assert_bool(is_way(system, aims, short), True)
            told = way(system, aims)
            self.assertTrue(leads(system, aims, *told))
            self.assert_told_short(told)

    def test_one_row_and_the_ends_of_sixteen_unknowns(self):
        source = Random(5)
        ends = [(great(source), None) for _ in range(16)]
        weights = [great(source).size() for _ in range(16)]
        system = System(ends, [([-one for one in weights], "at most", GREAT), (weights, "at most", -GREAT ** 3)])
        self.assert_told_short(bar(system))
        self.assertTrue(bars(system, bar(system)))

    def test_values_that_all_stand_at_ends(self):
        source = Random(6)
        ends = [(great(source), None) for _ in range(16)]
        told = best(System(ends), [[-1] * 16])
        self.assertEqual(told, ([low for low, _ in ends], []))

    def test_more_unknowns_than_rows(self):
        """No corner is short here, but sums of short vectors are."""
        source = Random(7)
        rows = [([great(source) for _ in range(12)], "equals", great(source)) for _ in range(4)]
        for ends in ([(None, None)] * 12, [(0, None)] * 6 + [(None, None)] * 6):
            system = System(ends, rows)
            self.assertTrue(solves(system, solution(system)))
            self.assert_told_short(solution(system))

    def test_parts_that_do_not_hang_together(self):
        source = Random(8)
        rows = []
        for at in range(4):
            for _ in range(2):
                rows.append(([0] * (4 * at) + [great(source) for _ in range(4)] + [0] * (12 - 4 * at), "equals", great(source)))
        system = System([(None, None)] * 16, rows)
        self.assertTrue(solves(system, solution(system)))
        self.assert_told_short(solution(system))

    def test_supports_of_rows_that_all_touch(self):
        source = Random(9)
        rows = [([great(source) for _ in range(9)], "at most", 0) for _ in range(14)]
        rows = rows + [([1, 2, 3, 0, 0, 0, 0, 0, 0], "at most", 0), ([0, 0, 0, 1, 1, 1, 0, 0, -1], "at most", 0)]
        aims = [[1, 2, 3, 1, 1, 1, 0, 0, -1], [2, 4, 6, -1, -1, -1, 0, 0, 1]]
        system = System([(None, None)] * 9, rows[::-1])
        self.assert_bool(is_best(system, aims, ([0] * 9, [(1, -1), (1, 2)] + [(0, 0)] * 14)), True)
        told = best(system, aims)
        self.assertTrue(supports(system, aims, *told))
        self.assert_told_short(told)

    def test_small_systems_where_short_means_one_digit(self):
        """All that looks for short numbers, on systems of all kinds; what it tells must be right, and mostly be short."""
        source, missed = Random(10), 0
        with mock.patch("lateledger.ratios.MOST_BITS", 3):
            for _ in range(250):
                system = some_system(source, 4, 6, 6)
                aims = some_aims(source, len(system), 5)
                if outcome(system, aims) == "bar":
                    self.assertTrue(bars(system, bar(system)))
                    continue
                values = solution(system)
                self.assertTrue(solves(system, values))
                if max(abs(part.top) for part in values) > 7 or max(part.bottom for part in values) > 7:
                    missed += any(True for _ in grid_values(system, 7))
                if outcome(system, aims) == "way":
                    self.assertTrue(leads(system, aims, *way(system, aims)))
                else:
                    self.assertTrue(supports(system, aims, *best(system, aims)))
        self.assertLess(missed, 5)

    def test_small_ways_and_bars(self):
        """Directions and multipliers of more than one digit, for which shorter ones are looked for."""
        source, counts = Random(12), [0, 0]
        with mock.patch("lateledger.ratios.MOST_BITS", 2):
            for _ in range(300):
                many = source.randint(2, 5)
                rows = [([source.randint(-6, 6) for _ in range(many)], source.choice(["at most", "equals"]), source.randint(-3, 3))
                        for _ in range(source.randint(1, many + 2))]
                ends = [source.choice([(None, None), (None, None), (0, None), (None, 2), (-1, 1)]) for _ in range(many)]
                system = System(ends, rows)
                aims = [[source.randint(-3, 3) for _ in range(many)] for _ in range(source.randint(1, 3))]
                if outcome(system, aims) == "way":
                    counts[0] += 1
                    self.assertTrue(leads(system, aims, *way(system, aims)))
                elif outcome(system, aims) == "bar":
                    counts[1] += 1
                    self.assertTrue(bars(system, bar(system)))
        self.assertGreater(min(counts), 60)

    def test_small_systems_with_many_aims(self):
        """Values at 0, and rows that all touch it: supports with parts of both signs behind those above 0."""
        source, counts = Random(11), [0, 0]
        with mock.patch("lateledger.ratios.MOST_BITS", 2):
            for _ in range(120):
                many = source.randint(2, 4)
                rows = [([source.randint(-5, 5) for _ in range(many)], source.choice(["at most"] * 4 + ["equals"]), 0)
                        for _ in range(source.randint(many - 1, many + 2))]
                ends = [source.choice([(None, None), (0, None), (None, 0), (0, 0), (-1, 1)]) for _ in range(many)]
                system, height = System(ends, rows), source.randint(2, 3)
                often = [[source.randint(0, 2) for _ in rows]] + [[source.randint(-3, 3) for _ in rows] for _ in range(height - 1)]
                aims = [[sum(number * row[0][at] for number, row in zip(parts, rows)) for at in range(many)] for parts in often]
                if outcome(system, aims) == "best":
                    told = best(system, aims)
                    self.assertTrue(supports(system, aims, *told))
                    counts[any(number.sign < 0 for parts in told[1] for number in parts)] += 1
        self.assertGreater(min(counts), 10)


if __name__ == "__main__":
    unittest.main()
