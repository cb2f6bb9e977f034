"""The inner files barring.py and shorter.py by themselves, on small systems against plain searches."""

import unittest
from fractions import Fraction
from itertools import combinations, product
from random import Random

from lateledger.barring import Bar, Quarrel, hitting, shorter_bar
from lateledger.best import bar
from lateledger.ratios import Ratio
from lateledger.shorter import Direction, Part, shorter
from lateledger.systems import System
from tests.linear import bars, leads, number, solves, some_ends, some_system
from tests.support import GREAT, fractions, sign_of


def has_solution(system, places):
    return bar(System(system.unknowns(), [system.rows()[place] for place in places])) is None


def fewest_rows(system):
    """The least number of rows that have no solution, by trying all choices."""
    for many in range(1, len(system.rows()) + 1):
        for places in combinations(range(len(system.rows())), many):
            if not has_solution(system, places):
                return many
    return None


class BarringTest(unittest.TestCase):
    def test_hitting(self):
        source = Random(611)
        for _ in range(100):
            sets = [source.sample(range(6), source.randint(1, 3)) for _ in range(source.randint(0, 6))]
            least = min(many for many in range(7) for chosen in combinations(range(6), many)
                        if all(set(chosen) & set(one) for one in sets))
            for many in range(5):
                told = hitting(sets, many)
                self.assertEqual(told is None, many < least)
                if told is not None:
                    self.assertLessEqual(len(told), many)
                    self.assertTrue(all(set(told) & set(one) for one in sets))

    def test_fewest_rows(self):
        source, found = Random(612), [0] * 9
        for _ in range(150):
            system = some_system(source, 3, 8)
            if bar(system) is None:
                continue
            least = fewest_rows(system)
            quarrel = Quarrel(system.unknowns(), system.rows())
            for most in (2, 4):
                told = quarrel.fewest(most)
                self.assertEqual(told is None, least > most)
                if told is not None:
                    found[least] += 1
                    self.assertEqual((len(told), told), (least, sorted(told)))
                    self.assertFalse(has_solution(system, told))
        self.assertGreater(min(found[1:4]), 5)

    def test_bars_of_some_rows(self):
        source, counts = Random(613), [0, 0]
        for _ in range(200):
            system = some_system(source, 3, 5)
            many = len(system.rows())
            places = sorted(source.sample(range(many), source.randint(0, many)))
            if not places:
                continue
            told = Bar(system.unknowns(), system.rows(), places).found()
            self.assertEqual(told is None, has_solution(system, places))
            counts[told is None] += 1
            if told is not None:
                self.assertTrue(bars(system, told))
                self.assertTrue(all(number == Ratio(0) for at, number in enumerate(told[0]) if at not in places))
        self.assertGreater(min(counts), 20)

    def test_multipliers_that_make_a_bar(self):
        source, counts = Random(614), [0, 0]
        for _ in range(150):
            many = source.randint(1, 3)
            system = System([some_ends(source, 3) for _ in range(many)],
                            [([number(source, 3) for _ in range(many)], source.choice(["equals", "at most"]), number(source, 3))
                             for _ in range(2)])
            search = Bar(system.unknowns(), system.rows(), [0, 1])
            for vector in product((-1, 0, 1, 2), repeat=2):
                told = search.like([Ratio(part) for part in vector])
                wanted = self.has_bar(system, vector)
                counts[wanted] += 1
                self.assertEqual(told is not None, wanted, (system, vector))
                if told is not None:
                    self.assertTrue(bars(system, told))
                    scales = {Fraction(one, part) for one, part in zip(fractions(told[0]), vector) if part}
                    self.assertEqual(len(scales), 1)
        self.assertGreater(min(counts), 100)

    def has_bar(self, system, vector):
        """Whether a bar has these multipliers: with as little as can be at the ends."""
        lows, highs = [], []
        for place in range(len(system)):
            total = sum(fractions([row[0][place]])[0] * part for row, part in zip(system.rows(), vector))
            lows.append(max(total, 0))
            highs.append(max(-total, 0))
        paper = [[Ratio(part.numerator, part.denominator) for part in map(Fraction, numbers)] for numbers in (vector, lows, highs)]
        return bars(system, paper)

    def test_a_bar_that_is_short_stays(self):
        system = System([(0, 1)], [([1], "at most", -1), ([2], "at most", -1)])
        paper = bar(system)
        self.assertEqual(shorter_bar(system.unknowns(), system.rows(), paper), paper)

    def test_bars_that_are_multiples_of_one(self):
        free = [(None, None), (None, None)]
        rows = [([Ratio(1), Ratio(0)], "equals", Ratio(1)), ([Ratio(0), Ratio(1)], "equals", Ratio(1)),
                ([Ratio(1), Ratio(1)], "equals", Ratio(3))]
        self.assertTrue(Bar(free, rows, [0, 1, 2]).are_like_one())
        self.assertTrue(Bar(free, rows, [0, 1]).are_like_one())
        self.assertFalse(Bar(free, rows + rows[:1], [0, 1, 2, 3]).are_like_one())
        self.assertFalse(Bar([(0, None), (None, None)], rows, [0, 1, 2]).are_like_one())


class ShorterTest(unittest.TestCase):
    def test_directions_of_small_numbers(self):
        source, counts = Random(615), [0, 0]
        for _ in range(120):
            many = source.randint(1, 3)
            system = System([source.choice([(None, None), (0, None), (None, 0), (0, 0)]) for _ in range(many)],
                            [([number(source, 3) for _ in range(many)], source.choice(["equals", "at most"]), 0)
                             for _ in range(source.randint(0, 2))])
            ahead, aim = [[number(source, 2) for _ in range(many)]], [number(source, 2) for _ in range(many)]
            unknowns, rows = system.unknowns(), system.rows()
            found = Direction(unknowns, rows, ahead, aim).found()
            if found is not None:
                self.assertTrue(self.is_way(system, ahead, aim, found))
            steps = [range(-2, 3) if low is None or high is None else [0] for low, high in unknowns]
            for vector in product(*steps):
                wanted = self.is_way(system, ahead, aim, vector)
                told = Direction(unknowns, rows, ahead, aim).like([Ratio(part) for part in vector])
                counts[wanted] += 1
                self.assertEqual(told is not None, wanted)
                if wanted:
                    self.assertTrue(self.is_way(system, ahead, aim, told))
                    self.assertIsNotNone(found)
        self.assertGreater(min(counts), 60)

    def is_way(self, system, ahead, aim, direction):
        if not leads(system, [aim], [0] * len(system), list(direction)):
            return False
        return all(sign_of([Ratio.total([Ratio.total([one]) * part for one, part in zip(other, direction)])]) == 0
                   for other in ahead)

    def test_values_by_fixing(self):
        source, counts = Random(616), [0, 0]
        for _ in range(120):
            system = some_system(source, 3, 4)
            unknowns, rows = system.unknowns(), system.rows()
            if bar(system) is not None:
                continue
            values = [Ratio(0)] * len(system)
            part = Part(unknowns, rows, values, list(range(len(system))), ())
            for told in (part.found(), part.found_by_fixing()):
                counts[told is None] += 1
                if told is not None:
                    self.assertTrue(solves(system, told))
        self.assertGreater(counts[0], 100)

    def test_strict_rows(self):
        long = Ratio(GREAT ** 20, GREAT ** 20 - 1)
        rows = [([Ratio(1)], "at most", Ratio(2)), ([Ratio(-1)], "at most", Ratio(-1))]
        for strict, wanted in (((), (1, 2)), ((0,), (1, 1.9)), ((1,), (1.1, 2)), ((0, 1), (1.1, 1.9))):
            told = shorter([(None, None)], rows, [long], strict)
            self.assertLess(len(str(told[0].top)), 500)
            self.assertTrue(wanted[0] <= fractions(told)[0] <= wanted[1])
        self.assertEqual(shorter([(None, None)], rows, [Ratio(3, 2)]), [Ratio(3, 2)])

    def test_fixed_unknowns_stay(self):
        long = Ratio(GREAT ** 20, GREAT ** 20 - 1)
        rows = [([Ratio(1), Ratio(0), Ratio(0)], "equals", long), ([Ratio(1), Ratio(1), Ratio(0)], "at most", Ratio(9))]
        told = shorter([(None, None), (0, None), (long, long)], rows, [long, long, long])
        self.assertEqual([told[0], told[2]], [long, long])
        self.assertLess(len(str(told[1].top)), 500)


if __name__ == "__main__":
    unittest.main()
