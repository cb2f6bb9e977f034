"""The inner files reducing.py and cones.py: short vectors of a lattice, and those within a cone."""

import unittest
from random import Random

from lateledger.cones import Cone, Feeder, Line, cut_to, nearest, rank_by_prime, units
from lateledger.reducing import Reduction, dot, most_bits
from tests.market import solved
from tests.support import GREAT


class Judge:
    """It takes every vector with which some sums are above 0 or at least 0, as they stand."""

    def __init__(self, lines):
        self.lines = lines

    def told(self, vector):
        sums = [(dot(line.numbers, vector), line.is_strict) for line in self.lines]
        return vector if all(total > 0 if is_strict else total >= 0 for total, is_strict in sums) else None


class Picky:
    """It takes none but one."""

    def __init__(self, wanted):
        self.wanted = wanted

    def told(self, vector):
        return vector if vector == self.wanted else None


def are_whole_sums(vectors, others):
    """Whether each of the others is a sum of INTEGER multiples of the vectors."""
    for other in others:
        told = solved(vectors, other)
        if told is None or any(number.denominator != 1 for number in told):
            return False
    return True


class ReducingTest(unittest.TestCase):
    def test_the_lattice_stays(self):
        source = Random(601)
        for many in (1, 2, 3, 5):
            for size in (3, 100, GREAT, GREAT ** 4):
                vectors = [[source.randint(-size, size) for _ in range(many + 1)] for _ in range(many)]
                vectors = [vector if any(vector) else [1] + vector[1:] for vector in vectors]
                reduction = Reduction(vectors)
                self.assertGreater(reduction.reduce(10 ** 5), 0)
                told = reduction.vectors()
                self.assertTrue(are_whole_sums(told, vectors) and are_whole_sums(vectors, told))

    def test_vectors_become_short(self):
        source = Random(602)
        for many in (4, 8):
            weights = [source.randint(1, 1 << 16) for _ in range(many)]
            vectors = [row + [weight << 16] for row, weight in zip(units(many), weights)]
            reduction = Reduction(vectors)
            reduction.reduce(10 ** 5)
            for vector in reduction.vectors()[:-1]:
                self.assertEqual(vector[-1], 0)
                self.assertLess(most_bits(vector), 16 // (many - 1) + many)

    def test_steps_are_counted(self):
        vectors = [[1, 0, GREAT], [0, 1, GREAT - 7]]
        self.assertEqual(Reduction(vectors).reduce(0), 0)
        left = Reduction(vectors).reduce(1000)
        self.assertTrue(0 < left < 1000)

    def test_fed_vectors_are_exact(self):
        source = Random(603)
        for many, equations in ((5, 2), (6, 3), (7, 1), (4, 4), (4, 5)):
            rows = [[source.randint(-GREAT, GREAT) for _ in range(many)] for _ in range(min(equations, many - 1))]
            rows = rows + [[one + two for one, two in zip(rows[0], rows[-1])]]
            feeder, found = Feeder(units(many), rows), []
            while not feeder.is_done():
                found = feeder.exact()
            self.assertEqual(len(found), many - rank_by_prime(rows))
            self.assertTrue(all(dot(row, vector) == 0 for row in rows for vector in found))
            self.assertEqual(rank_by_prime(found), len(found))

    def test_a_short_vector_comes_first(self):
        source = Random(604)
        rows = []
        for _ in range(4):
            row = [source.randint(-GREAT, GREAT) for _ in range(9)]
            rows.append(row + [-(row[0] + 2 * row[1] - 3 * row[8])])
        feeder = Feeder(units(10), rows)
        found = []
        while not found:
            found = feeder.exact()
        self.assertIn(found, ([[1, 2, 0, 0, 0, 0, 0, 0, -3, 1]], [[-1, -2, 0, 0, 0, 0, 0, 0, 3, -1]]))

    def found(self, lines, many, equations):
        return Cone(lines, 0, Judge(lines)).found(units(many), equations)

    def test_cones(self):
        lines = [Line([1, 0], [], True), Line([0, 1], [], False), Line([-1, 3], [], False)]
        told = self.found(lines, 2, [])
        self.assertTrue(told[0] > 0 and told[1] >= 0 and 3 * told[1] >= told[0])
        self.assertIsNone(self.found(lines + [Line([0, -1], [], True)], 2, []))
        self.assertIsNone(self.found(lines + [Line([-1, 0], [], False)], 2, []))
        edge = lines + [Line([7, -5], [], False), Line([-7, 5], [], False)]
        self.assertEqual(self.found(edge, 2, []), [5, 7])
        self.assertEqual(Cone(edge, 0, Picky([5, 7])).found(units(2), []), [5, 7])
        self.assertIsNone(Cone(edge, 0, Picky([10, 14])).found(units(2), []))
        self.assertEqual(self.found(lines, 2, [[7, -5]]), [5, 7])
        self.assertIsNone(self.found(lines, 2, [[7, 5]]))
        self.assertIsNone(self.found(lines, 2, [[1, 1], [1, 2]]))

    def test_cones_with_free_numbers(self):
        """The free number makes up for what the second sum lacks, and costs twice as much in the third one."""
        lines = [Line([1, 0], [0], True), Line([1, -1], [1], False), Line([0, 1], [-2], True)]
        judge = Judge([Line([1, 0], [], True), Line([0, 1], [], True), Line([2, -1], [], True)])
        told = Cone(lines, 1, judge).found(units(2), [])
        self.assertTrue(told[0] > 0 and told[1] > 0 and told[1] < 2 * told[0])
        shut = [Line([1], [0], True), Line([-1], [0], False)]
        self.assertIsNone(Cone(shut, 1, Picky([1])).found(units(1), []))

    def test_narrow_cones(self):
        lines = [Line([GREAT, -GREAT + 1], [], True), Line([-GREAT, GREAT + 1], [], True)]
        told = self.found(lines, 2, [])
        self.assertTrue(all(dot(line.numbers, told) > 0 for line in lines))

    def test_small_helps(self):
        self.assertEqual([nearest(7, 2), nearest(-7, 2), nearest(1, 3), nearest(-1, 3), nearest(5, 5)], [4, -3, 0, 0, 1])
        self.assertEqual(cut_to([5, -9, 1 << 20], 200), [5, -9, 1 << 20])
        self.assertEqual(cut_to([1 << 10, 3, -(1 << 9)], 4), [8, 0, -4])
        self.assertEqual([rank_by_prime([]), rank_by_prime([[0, 0]]), rank_by_prime([[1, 2], [2, 4], [0, 1]])], [0, 0, 2])
        self.assertEqual(dot([1, 2], [3, 4]), 11)


if __name__ == "__main__":
    unittest.main()
