"""[2]: told numbers of OPEN results have no more than 500 digits, also where corners have longer ones."""

import unittest
from random import Random

from lateledger.accounts import Chart
from lateledger.best import bar, is_bar, is_way, solution, way
from lateledger.ratios import Ratio
from lateledger.systems import System
from lateledger.wholes import journal_with
from tests.books import value_by_sums
from tests.linear import bars, leads, solves
from tests.support import GREAT, Checks, fraction


def great(source):
    return Ratio(source.randint(-GREAT, GREAT), source.randint(1, GREAT))


def around(source, many, rows, equals, ends, room):
    """A system of long Ratios around a point of small numbers."""
    point = [source.randint(-3, 3) for _ in range(many)]
    told = []
    for at in range(rows):
        weights = [great(source) for _ in range(many)]
        bound = Ratio.total([weight * number for weight, number in zip(weights, point)])
        told.append((weights, "equals", bound) if at < equals else (weights, "at most", bound + room))
    return System(ends, told)


class ShortNumbersTest(Checks, unittest.TestCase):
    def check_solution(self, system):
        values = solution(system)
        self.assertTrue(solves(system, values))
        self.assert_bool(system.does_solve(values), True)
        self.assert_told_short(values)
        self.assertIsNone(bar(system))
        self.assertEqual(solution(system), values)

    def test_solutions(self):
        source = Random(101)
        for many, rows, equals in ((6, 8, 0), (8, 12, 0), (8, 12, 1), (5, 9, 1), (8, 10, 2)):
            for ends in ([(Ratio(-GREAT, 7), GREAT)] * many, [(None, None), (0, None), (None, 3)] + [(-9, 9)] * (many - 3)):
                system = around(source, many, rows, 0, [(None, None)] * many, 1)
                self.check_solution(system)
                if ends[0] != (None, None):
                    self.check_solution(around(source, many, rows, equals, ends, 1))

    def test_solutions_with_equal_ends(self):
        source = Random(102)
        ends = [(2, 2), (Ratio(1, 3), Ratio(1, 3))] + [(-GREAT, GREAT)] * 6
        for _ in range(3):
            rows = [([great(source) for _ in range(8)], "at most", great(source).size() + GREAT) for _ in range(12)]
            self.check_solution(System(ends, rows))

    def check_way(self, system, aims):
        paper = way(system, aims)
        self.assertTrue(leads(system, aims, *paper))
        self.assert_bool(is_way(system, aims, paper), True)
        self.assert_told_short(paper)

    def test_ways(self):
        source = Random(103)
        for equals in (0, 1):
            system = around(source, 8, 7, equals, [(None, None), (0, None), (None, 3)] + [(None, None)] * 5, 1)
            self.check_way(system, [[great(source) for _ in range(8)] for _ in range(2)])

    def test_ways_that_gain_by_a_later_aim_alone(self):
        source = Random(104)
        system = around(source, 8, 6, 0, [(None, None)] * 7 + [(0, 1)], 1)
        self.check_way(system, [[0] * 7 + [1], [0] * 8, [great(source) for _ in range(8)], [1] * 8])

    def test_ways_that_leave_an_earlier_aim(self):
        for seed in (1, 27, 30, 33):
            source = Random(seed)
            system = around(source, 8, 7, 0, [(None, None)] * 8, 1)
            for place in (0, 3, 7):
                aim = [int(at == place) for at in range(8)]
                for first in (aim, [-one for one in aim]):
                    self.check_way(system, [first, [great(source) for _ in range(8)]])

    def test_bars_where_ends_are_missing(self):
        source = Random(108)
        for ends in ([(0, None)] * 4 + [(-9, 9)], [(None, 0)] * 4 + [(-9, 9)], [(-9, 9)] * 4 + [(None, None)]):
            found = 0
            while found < 3:
                system = System(ends, [([great(source) for _ in range(5)], "at most", great(source)) for _ in range(14)])
                paper = bar(system)
                if paper is not None:
                    found += 1
                    self.assertTrue(bars(system, paper))
                    self.assert_bool(is_bar(system, paper), True)
                    self.assert_told_short(paper)

    def test_bars(self):
        source = Random(105)
        for rows in (20, 24):
            told = [([great(source) for _ in range(8)], "at most", great(source)) for _ in range(rows)]
            told[0] = (told[0][0], "equals", told[0][2])
            system = System([(Ratio(-GREAT, 7), GREAT)] * 8, told)
            self.assertIsNone(solution(system))
            paper = bar(system)
            self.assertTrue(bars(system, paper))
            self.assert_bool(is_bar(system, paper), True)
            self.assert_told_short(paper)
            self.assertEqual([part.__class__ for part in paper], [list, list, list])

    def test_journals(self):
        source = Random(109)
        accounts = [one + other for one in "abcd" for other in "abcde"]
        for many, short in ((20, True), (14, True), (13, False)):
            chart = Chart(accounts[:many], ["coin"])
            kept = {name: {(account, "coin"): source.randint(-GREAT, GREAT) for account in chart.accounts()}
                    for name in "abcdefghijkl"}
            numbers = {name: great(source) for name in kept}
            journal = journal_with(chart, kept, numbers)
            for name, number in numbers.items():
                self.assertEqual(value_by_sums(journal.entries(), kept[name]), fraction(number))
            if short:
                self.assert_told_short(journal.entries())
            self.assertEqual(journal_with(chart, kept, numbers), journal)

    def test_where_no_result_is_short(self):
        source = Random(106)
        rows = [([great(source) for _ in range(6)], "equals", great(source)) for _ in range(6)]
        system = System([(None, None)] * 6, rows)
        values = solution(system)
        self.assertTrue(solves(system, values))
        shut = system + (rows[0][0], "at most", rows[0][2] - 1)
        self.assertTrue(bars(shut, bar(shut)))
        both = System([(None, None)] * 6, rows[:3] + [row for weights, _, bound in rows[3:] for row in (
            (weights, "at most", bound), ([-one for one in weights], "at most", -bound))])
        self.assertEqual(solution(both), values)


if __name__ == "__main__":
    unittest.main()
