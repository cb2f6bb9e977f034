"""[13] to [17], SOLVED OR BARRED of [4], and the part "lateledger/best.py"."""

import unittest
from random import Random

from lateledger.best import bar, best, first, is_bar, is_best, is_way, outcome, solution, spans, way, worth
from lateledger.errors import InvalidAims, InvalidSystem, NoEnd, NoSolution
from lateledger.ratios import Ratio
from lateledger.systems import System
from tests.linear import bars, grid_values, leads, solves, some_aims, some_system, supports, worth_by_sums
from tests.support import GREAT, Checks, fraction, fractions, looks_like, values_of_every_kind

HALF = Ratio(1, 2)
TWO = System([(0, None), (0, 5)], [([1, 1], "at most", 7), ([1, -1], "equals", 1)])
NONE = TWO + ([0, 1], "at most", -1)
ENDLESS = System([(0, None), (0, 2)], [([-1, 1], "at most", 0)])
WITH_SYSTEM = (solution, bar, spans, first)
WITH_AIMS = (outcome, worth, best, way)
JUDGES_WITH_AIMS = (is_best, is_way)


def units(many):
    return [[1 if at == place else 0 for at in range(many)] for place in range(many)]


class PapersTest(Checks, unittest.TestCase):
    """Just one of a solution and a bar; just one of best values, a way and a bar."""

    def check_system(self, system):
        values, paper = solution(system), bar(system)
        self.assertEqual(values is None, paper is not None)
        if paper is None:
            self.assertIs(values.__class__, list)
            self.assertTrue(solves(system, values))
            self.assert_bool(system.does_solve(values), True)
            self.assert_told_short(values)
        else:
            self.assertIs(paper.__class__, tuple)
            self.assertEqual([part.__class__ for part in paper], [list, list, list])
            self.assertTrue(bars(system, paper))
            self.assert_bool(is_bar(system, paper), True)
            self.assert_told_short(paper)

    def check_aims(self, system, aims):
        told = outcome(system, aims)
        self.assertEqual(told == "bar", bar(system) is not None)
        if told == "best":
            self.check_best(system, aims)
        else:
            error = NoSolution if told == "bar" else NoEnd
            self.assert_raises(error, {}, worth, system, aims)
            self.assert_raises(error, {}, best, system, aims)
        paper = way(system, aims)
        self.assertEqual(paper is not None, told == "way")
        if paper is not None:
            self.assertIs(paper.__class__, tuple)
            self.assertEqual([part.__class__ for part in paper], [list, list])
            self.assertTrue(leads(system, aims, *paper))
            self.assert_bool(is_way(system, aims, paper), True)
            self.assert_told_short(paper)
        return told

    def check_best(self, system, aims):
        paper = best(system, aims)
        self.assertIs(paper.__class__, tuple)
        values, support = paper
        self.assertEqual((values.__class__, support.__class__), (list, list))
        self.assertTrue(all(part.__class__ is tuple for part in support))
        self.assertTrue(supports(system, aims, values, support))
        self.assert_bool(is_best(system, aims, paper), True)
        self.assert_told_short(paper)
        told = worth(system, aims)
        self.assertIs(told.__class__, tuple)
        self.assertTrue(all(part.__class__ is Ratio for part in told))
        self.assertEqual(tuple(fractions(told)), worth_by_sums(aims, values))

    def test_many_systems(self):
        source, found = Random(11), {}
        for _ in range(700):
            system = some_system(source)
            self.check_system(system)
            told = self.check_aims(system, some_aims(source, len(system)))
            found[told] = found.get(told, 0) + 1
        self.assertEqual(sorted(found), ["bar", "best", "way"])
        self.assertGreater(min(found.values()), 50)

    def test_larger_systems(self):
        source = Random(12)
        for _ in range(25):
            system = some_system(source, 16, 24, 9)
            self.check_system(system)
            self.check_aims(system, some_aims(source, len(system)))

    def test_no_grid_point_is_better(self):
        source = Random(13)
        for _ in range(60):
            system = some_system(source, 3, 4)
            aims = some_aims(source, len(system))
            points = list(grid_values(system, 3))
            if outcome(system, aims) == "bar":
                self.assertEqual(points, [])
            elif outcome(system, aims) == "best":
                greatest = tuple(fractions(worth(system, aims)))
                self.assertTrue(all(worth_by_sums(aims, values) <= greatest for values in points))
            for values in points:
                for number, (low, high) in zip(values, spans(system)):
                    self.assertTrue(low is None or fraction(low) <= number)
                    self.assertTrue(high is None or fraction(high) >= number)

    def test_no_rows(self):
        box = System([(1, 3), (-2, HALF)])
        self.check_system(box)
        self.assertEqual(self.check_aims(box, [[1, -1]]), "best")
        self.assertEqual(worth(box, [[1, -1]]), (Ratio(5),))
        self.assertEqual(best(box, [[1, -1]]), ([Ratio(3), Ratio(-2)], []))
        self.assertEqual(self.check_aims(System([(1, 3), (None, 3)]), [[1, -1]]), "way")
        self.assertEqual(self.check_aims(System([(None, None)]), [[0]]), "best")

    def test_equal_ends(self):
        fixed = System([(2, 2), (HALF, HALF)], [([1, 2], "equals", 3)])
        self.assertEqual(solution(fixed), [Ratio(2), HALF])
        self.assertEqual(self.check_aims(fixed, [[1, 1], [-1, 0]]), "best")
        self.assertEqual(spans(fixed), [(Ratio(2), Ratio(2)), (HALF, HALF)])
        for bound in (2, 4):
            self.check_system(System([(2, 2), (HALF, HALF)], [([1, 2], "equals", bound)]))

    def test_rows_that_are_sums_of_others(self):
        rows = [([1, 1, 0], "equals", 2), ([0, 1, 1], "equals", 3), ([1, 2, 1], "equals", 5)]
        free = System([(None, None)] * 3, rows)
        self.check_system(free)
        self.check_aims(free, [[1, -1, 1], [0, 1, 0]])
        self.check_system(System([(None, None)] * 3, rows[:2] + [([1, 2, 1], "equals", 6)]))
        self.assertIsNone(solution(System([(None, None)] * 3, rows[:2] + [([1, 2, 1], "at most", 4)])))

    def test_rows_of_nought(self):
        for word, bound, wanted in (("equals", 0, True), ("at most", 0, True), ("at most", 1, True), ("at most", -1, False),
                                    ("equals", 1, False), ("equals", -1, False)):
            system = System([(None, None), (0, None)], [([0, 0], word, bound)])
            self.check_system(system)
            self.assertEqual(bar(system) is None, wanted)

    def test_aims_of_nought_and_equal_aims(self):
        for aims in ([[0, 0]], [[0, 0]] * 4, [[1, 2], [1, 2], [1, 2], [1, 2]], [[0, 0], [1, 0], [0, 0], [0, 1]]):
            self.assertEqual(self.check_aims(TWO, aims), "best")
        self.assertEqual(worth(TWO, [[0, 0], [1, 0]]), (Ratio(0), Ratio(4)))
        self.assertEqual(self.check_aims(ENDLESS, [[0, 0]]), "best")
        self.assertEqual(self.check_aims(ENDLESS, [[0, 0], [1, 0]]), "way")

    def test_aims_are_taken_in_sequence(self):
        square = System([(0, 1), (0, 1)], [([1, 1], "at most", 1)])
        self.assertEqual(worth(square, [[1, 1], [1, 0], [0, 1]]), (Ratio(1), Ratio(1), Ratio(0)))
        self.assertEqual(worth(square, [[1, 1], [0, 1], [1, 0]]), (Ratio(1), Ratio(1), Ratio(0)))
        self.assertEqual(best(square, [[1, 1], [0, 1]])[0], [Ratio(0), Ratio(1)])
        self.assertEqual(self.check_aims(ENDLESS, [[-1, 0], [1, 0]]), "best")
        self.assertEqual(self.check_aims(ENDLESS, [[0, 1], [1, 0]]), "way")

    def test_a_way_may_gain_by_a_later_aim_alone(self):
        wide = System([(None, None), (0, 1)], [])
        self.assertEqual(self.check_aims(wide, [[0, 1], [-1, 5]]), "way")
        paper = way(wide, [[0, 1], [-1, 5]])
        self.assertEqual(paper[1][1], Ratio(0))

    def test_corners_at_which_the_search_could_go_round(self):
        rows = [([Ratio(1, 4), -60, Ratio(-1, 25), 9], "at most", 0), ([HALF, -90, Ratio(-1, 50), 3], "at most", 0),
                ([0, 0, 1, 0], "at most", 1)]
        system, aim = System([(0, None)] * 4, rows), [Ratio(3, 4), -150, Ratio(1, 50), -6]
        self.assertEqual(self.check_aims(system, [aim]), "best")
        self.assertEqual(worth(system, [aim]), (Ratio(1, 20),))
        self.assertEqual(self.check_aims(system, [aim, [0, 1, 0, 0], aim, [-1, 0, 0, -1]]), "best")

    def test_a_long_climb(self):
        for many in (4, 10, 16):
            rows = [([2 ** (at - place + 1) if place < at else int(place == at) for place in range(many)], "at most",
                     5 ** (at + 1)) for at in range(many)]
            system, aim = System([(0, None)] * many, rows), [2 ** (many - 1 - place) for place in range(many)]
            self.assertEqual(self.check_aims(system, [aim]), "best")
            self.assertEqual(worth(system, [aim]), (Ratio(5 ** many),))

    def test_sixteen_unknowns_and_24_rows_with_great_numbers(self):
        source = Random(14)

        def great():
            return source.randint(-GREAT, GREAT)

        for turn in range(8):
            point = [source.randint(-50, 50) for _ in range(16)]
            rows = []
            for at in range(24):
                weights = [great() for _ in range(16)]
                bound = sum(one * other for one, other in zip(weights, point)) % GREAT if turn % 2 else great()
                rows.append((weights, "equals" if at < turn and turn < 4 else "at most", bound))
            ends = [(None, None)] * 16 if turn in (2, 3) else [(-GREAT, GREAT)] * 16
            system = System(ends, rows)
            self.check_system(system)
            self.check_aims(system, [[great() for _ in range(16)] for _ in range(4)])

    def test_great_systems_around_a_point(self):
        source = Random(15)
        for turn in range(4):
            point = [source.randint(-3, 3) for _ in range(16)]
            rows = []
            for at in range(24):
                weights = [source.randint(-10 ** 28, 10 ** 28) for _ in range(16)]
                told = sum(one * other for one, other in zip(weights, point))
                rows.append((weights, "equals" if at < 3 else "at most", told))
            system = System([(-10 ** 29, 10 ** 29)] * 16, rows)
            self.check_system(system)
            self.assertIsNotNone(solution(system))
            self.assertEqual(self.check_aims(system, [[source.randint(-GREAT, GREAT) for _ in range(16)]]), "best")
            barred = System([(-10 ** 29, 10 ** 29)] * 16,
                            rows[:23] + [([-part for part in rows[0][0]], "at most", -rows[0][2] - 1)])
            self.assertIsNone(solution(barred))
            self.check_system(barred)

    def test_great_ratios(self):
        source = Random(16)
        for _ in range(20):
            rows = [([Ratio(source.randint(-GREAT, GREAT), source.randint(1, GREAT)) for _ in range(2)],
                     source.choice(["equals", "at most"]), Ratio(source.randint(-GREAT, GREAT), source.randint(1, GREAT)))
                    for _ in range(3)]
            system = System([(Ratio(-GREAT, 7), None), (None, Ratio(GREAT, 11))], rows)
            self.check_system(system)
            self.check_aims(system, [[Ratio(1, GREAT), Ratio(GREAT, 3)], [1, -1]])


class FirstAndSpansTest(Checks, unittest.TestCase):
    def check_first(self, system, aims):
        """That the told values are the first: each next unknown is as great as can be, by a support."""
        kept = list(system.rows())
        values = first(system, aims)
        self.assertIs(values.__class__, list)
        self.assertTrue(all(part.__class__ is Ratio for part in values))
        self.assertTrue(solves(system, values))
        for aim in list(aims) + units(len(system)):
            here = System(system.unknowns(), kept)
            paper = best(here, [aim])
            self.assertTrue(supports(here, [aim], *paper))
            self.assertEqual(worth_by_sums([aim], paper[0]), worth_by_sums([aim], values))
            kept.append((aim, "equals", worth(here, [aim])[0]))

    def test_many_systems(self):
        source, found = Random(21), {}
        for _ in range(300):
            system = some_system(source, 4, 4)
            aims = some_aims(source, len(system))[:source.randint(0, 4)]
            if bar(system) is not None:
                self.assert_raises(NoSolution, {}, first, system, aims)
                self.assert_raises(NoSolution, {}, spans, system)
                told = "none"
            elif self.goes_on(system, aims):
                self.assert_raises(NoEnd, {}, first, system, aims)
                told = "way"
            else:
                self.check_first(system, aims)
                told = "first"
            found[told] = found.get(told, 0) + 1
        self.assertGreater(min(found.get(word, 0) for word in ("none", "way", "first")), 20)

    def goes_on(self, system, aims):
        """Whether there is a way for the aims of [17], by ways for one aim at a time."""
        kept = list(system.rows())
        for aim in list(aims) + units(len(system)):
            here = System(system.unknowns(), kept)
            if way(here, [aim]) is not None:
                return True
            kept.append((aim, "equals", worth(here, [aim])[0]))
        return False

    def test_spans_by_papers(self):
        source = Random(22)
        for _ in range(150):
            system = some_system(source, 4, 5)
            if bar(system) is not None:
                continue
            told = spans(system)
            self.assertIs(told.__class__, list)
            for place, pair in enumerate(told):
                self.assertEqual((pair.__class__, len(pair)), (tuple, 2))
                for end, sign in zip(pair, (-1, 1)):
                    aim = [sign * part for part in units(len(system))[place]]
                    if end is None:
                        self.assertTrue(leads(system, [aim], *way(system, [aim])))
                    else:
                        values, support = best(system, [aim])
                        self.assertTrue(supports(system, [aim], values, support))
                        self.assertEqual((end, end.__class__), (values[place], Ratio))

    def test_known_spans(self):
        self.assert_same(spans(TWO), [(Ratio(1), Ratio(4)), (Ratio(0), Ratio(3))])
        self.assert_same(spans(ENDLESS), [(Ratio(0), None), (Ratio(0), Ratio(2))])
        self.assert_same(spans(System([(None, None), (None, 3)])), [(None, None), (None, Ratio(3))])
        self.assert_same(spans(System([(None, None), (0, 1)], [([2, 1], "equals", 1)])),
                         [(Ratio(0), HALF), (Ratio(0), Ratio(1))])

    def test_known_first_values(self):
        self.assert_same(first(TWO), [Ratio(4), Ratio(3)])
        self.assert_same(first(TWO, [[-1, 0]]), [Ratio(1), Ratio(0)])
        self.assert_same(first(TWO, ([0, -1],)), [Ratio(1), Ratio(0)])
        self.assert_same(first(System([(0, 1), (0, 1)], [([1, 1], "at most", 1)])), [Ratio(1), Ratio(0)])
        self.assert_same(first(System([(0, 1), (0, 1)], [([1, 1], "at most", 1)]), []), [Ratio(1), Ratio(0)])
        self.assert_raises(NoEnd, {}, first, ENDLESS)
        self.assert_raises(NoEnd, {}, first, System([(0, 1), (0, None)]))
        self.assert_raises(NoEnd, {}, first, System([(0, 1), (0, None)]), [[1, 0]])
        self.assert_same(first(System([(0, 1), (0, None)]), [[0, -1]]), [Ratio(1), Ratio(0)])

    def test_first_of_great_systems(self):
        source = Random(23)
        rows = [([source.randint(-GREAT, GREAT) for _ in range(16)], "at most", source.randint(0, GREAT)) for _ in range(24)]
        system = System([(0, GREAT)] * 16, rows)
        aims = [[source.randint(-GREAT, GREAT) for _ in range(16)] for _ in range(4)]
        values = first(system, aims)
        self.assertTrue(solves(system, values))
        self.assertEqual(tuple(fractions(worth(system, aims))), worth_by_sums(aims, values))
        for (low, high), number in zip(spans(system), values):
            self.assertTrue(fraction(low) <= fraction(number) <= fraction(high))


class ErrorsTest(Checks, unittest.TestCase):
    def test_system(self):
        for value in values_of_every_kind():
            if isinstance(value, System):
                continue
            for call in WITH_SYSTEM:
                self.assert_keeps(InvalidSystem, value, call, value)
            for call in WITH_AIMS:
                self.assert_keeps(InvalidSystem, value, call, value, [[1]])
                self.assert_keeps(InvalidSystem, value, call, value, None)
            for call in JUDGES_WITH_AIMS:
                self.assert_keeps(InvalidSystem, value, call, value, None, None)
            self.assert_keeps(InvalidSystem, value, first, value, None)
            self.assert_keeps(InvalidSystem, value, is_bar, value, None)

    def calls_with_aims(self, aims):
        for system in (TWO, NONE):
            for call in WITH_AIMS + (first,):
                yield call, (system, aims)
            for call in JUDGES_WITH_AIMS:
                yield call, (system, aims, None)

    def test_aims_that_are_no_list(self):
        for value in values_of_every_kind():
            if isinstance(value, (list, tuple)):
                continue
            for call, args in self.calls_with_aims(value):
                self.assert_raises(InvalidAims, {"position": None}, call, *args)

    def test_how_many_aims(self):
        for aims in ([[1, 0]] * 5, ([1, 0],) * 6, [None] * 5):
            for call, args in self.calls_with_aims(aims):
                self.assert_raises(InvalidAims, {"position": None}, call, *args)
        for aims in ([], ()):
            for call, args in self.calls_with_aims(aims):
                if call is not first:
                    self.assert_raises(InvalidAims, {"position": None}, call, *args)
            self.assertEqual(first(TWO, aims), [Ratio(4), Ratio(3)])
        self.assertEqual(outcome(TWO, ((1, 0),) * 4), "best")

    def test_wrong_aims(self):
        for value in values_of_every_kind() + [[1], [1, 2, 3], [1, True], [False, 1], [None, 1], ["1", 1], {1: 1, 2: 2}]:
            if looks_like(value, (1, 2)):
                continue
            for call, args in self.calls_with_aims([value]):
                self.assert_raises(InvalidAims, {"position": 0}, call, *args)
            for call, args in self.calls_with_aims(([1, 0], (0, HALF), value, value)):
                self.assert_raises(InvalidAims, {"position": 2}, call, *args)

    def test_no_solution_ahead_of_no_end(self):
        endless = System([(0, None)], [([0], "at most", -1)])
        for call in (worth, best, first):
            self.assert_raises(NoSolution, {}, call, endless, [[1]])
        self.assert_raises(NoSolution, {}, spans, endless)
        self.assertEqual((outcome(endless, [[1]]), way(endless, [[1]])), ("bar", None))
        for call in (worth, best, first):
            self.assert_raises(NoEnd, {}, call, ENDLESS, [[1, 0]])

    def test_by_name(self):
        self.assertEqual(solution(system=NONE), None)
        self.assertEqual(bar(system=TWO), None)
        self.assertEqual(outcome(aims=[[1, 1]], system=TWO), "best")
        self.assertEqual(worth(aims=[[1, 1]], system=TWO), (Ratio(7),))
        self.assertEqual(best(aims=[[1, 1]], system=TWO)[0], [Ratio(4), Ratio(3)])
        self.assertEqual(way(aims=[[1, 1]], system=TWO), None)
        self.assertEqual(first(aims=[[1, 1]], system=TWO), [Ratio(4), Ratio(3)])
        self.assertEqual(spans(system=TWO)[0], (Ratio(1), Ratio(4)))
        self.assertIs(is_bar(value=None, system=TWO), False)
        self.assertIs(is_best(value=None, aims=[[1, 1]], system=TWO), False)
        self.assertIs(is_way(value=None, aims=[[1, 1]], system=TWO), False)

    def test_told_parts_are_new_and_nothing_is_changed(self):
        aims = [[1, 1], (0, HALF)]
        for call in (lambda: solution(TWO), lambda: bar(NONE), lambda: best(TWO, aims), lambda: first(TWO, aims),
                     lambda: spans(TWO), lambda: way(ENDLESS, aims), lambda: worth(TWO, aims)):
            self.assert_all_new(call)
        self.assert_same(aims, [[1, 1], (0, HALF)])
        self.assertEqual(TWO, System([(0, None), (0, 5)], [([1, 1], "at most", 7), ([1, -1], "equals", 1)]))


class JudgesTest(Checks, unittest.TestCase):
    """Judges of any value, set against the sums of the document."""

    def test_no_papers_of_any_kind(self):
        for value in values_of_every_kind():
            for system in (TWO, NONE, ENDLESS):
                self.assert_bool(is_bar(system, value), False)
                self.assert_bool(is_best(system, [[1, 1]], value), False)
                self.assert_bool(is_way(system, [[1, 1]], value), False)
                self.assert_bool(is_bar(system, (value, value, value)), False)
                self.assert_bool(is_bar(system, ([0, 0, 1], value, [0, 0])), False)
                self.assert_bool(is_bar(system, ([0, 0, 1], [0, 1], value)), False)
                self.assert_bool(is_best(system, [[1, 1]], (value, [(1,), (0,)])), False)
                self.assert_bool(is_best(system, [[1, 1]], ([4, 3], value)), False)
                self.assert_bool(is_best(system, [[1, 1]], ([4, 3], [(1,), value])), False)
                self.assert_bool(is_way(system, [[1, 1]], (value, [1, 0])), False)
                self.assert_bool(is_way(system, [[1, 1]], ([0, 0], value)), False)

    def test_bars(self):
        right = ([0, 0, 1], [0, 1], [0, 0])
        for value in (right, ((0, 0, 1), (0, 1), (0, 0)), ([0, 0, HALF], [0, HALF], [0, 0]), ([0, 0, Ratio(1)], [0, 1], (0, 0)),
                      ([0, 0, 3], [0, 3], [0, 0]), ([1, 1, 9], [2, 9], [0, 0])):
            self.assertTrue(bars(NONE, value))
            self.assert_bool(is_bar(NONE, value), True)
        for value in (list(right), right + ([],), right[:2], ([0, 0, 1], [0, 1]), ([0, 0], [0, 1], [0, 0]),
                      ([0, 0, 1, 0], [0, 1], [0, 0]), ([0, 0, 1], [0], [0, 0]), ([0, 0, 1], [0, 1, 0], [0, 0]),
                      ([0, 0, 1], [0, 1], [0]), ([0, 0, 1], [0, 1], [0, 0, 0]), ([0, 0, True], [0, 1], [0, 0]),
                      ([0, 0, 1], [0, True], [0, 0]), ([0, 0, 1], [0, 1], [False, 0]), ([0, 0, 1], [0, 2], [0, 0]),
                      ([0, 0, 2], [0, 1], [0, 0]), ([0, 0, 0], [0, 0], [0, 0]), ([0, 0, 1], [0, 2], [0, 1]),
                      ([0, 0, -1], [0, 0], [0, 1]), ([0, 0, 1], [1, 1], [1, 0]), ([0, 0, 1], [0, 0], [0, -1]),
                      ([-1, 0, 2], [0, 1], [1, 0]), ([0, 0, "1"], [0, 1], [0, 0]), ([0, 0, 1], {0: 0, 1: 1}, [0, 0]),
                      ([1, 1, 1], [2, 1], [0, 0]), ([0, 0, 1], [1, 1], [0, 0])):
            self.assert_bool(is_bar(NONE, value), False)
            self.assert_bool(is_bar(TWO, value), False)

    def test_bars_need_ends_for_their_numbers(self):
        low = System([(None, 1)], [([1], "at most", -1), ([-1], "at most", 0)])
        self.assert_bool(is_bar(low, ([1, 1], [0], [0])), True)
        self.assert_bool(is_bar(low, ([1, 0], [1], [0])), False)
        high = System([(1, None)], [([-1], "at most", -1), ([1], "at most", 0)])
        self.assert_bool(is_bar(high, ([0, 1], [1], [0])), True)
        self.assert_bool(is_bar(high, ([1, 0], [0], [1])), False)
        self.assert_bool(is_bar(high, ([1, 1], [0], [0])), True)

    def test_a_bar_may_come_from_the_ends_of_a_row_of_nought(self):
        system = System([(0, 1)], [([0], "equals", 2)])
        self.assert_bool(is_bar(system, ([-1], [0], [0])), True)
        self.assert_bool(is_bar(system, ([1], [0], [0])), False)
        self.assert_bool(is_bar(system, ([-1], [1], [1])), True)
        self.assert_bool(is_bar(system, ([-1], [2], [2])), False)

    def test_best_papers(self):
        aims = [[1, 1]]
        for value in (([4, 3], [(1,), (0,)]), ((4, 3), ((1,), (0,))), ([Ratio(4), Ratio(6, 2)], [(Ratio(1),), (Ratio(0),)])):
            self.assert_bool(is_best(TWO, aims, value), True)
        for value in ([[4, 3], [(1,), (0,)]], ([4, 3], [[1], [0]]), ([4, 3], [(1,), [0]]), ([4, 3], [(1,)]), ([4, 3],),
                      ([4, 3], [(1,), (0,), (0,)]), ([4, 3], [(1, 0), (0, 0)]), ([4, 3], [(), ()]), ([3, 2], [(1,), (0,)]),
                      ([4, 3], [(True,), (0,)]), ([4, 3], [(1,), (None,)]), ([4, 3], [(2,), (0,)]), ([4, 3], [(1,), (1,)]),
                      ([4, 3], [(-1,), (2,)]), ([4, 3, 0], [(1,), (0,)]), ([4], [(1,), (0,)]), ([4, True], [(1,), (0,)]),
                      ([4, 3], [(1,), (0,)], None), ([4, 3], {0: (1,), 1: (0,)})):
            self.assert_bool(is_best(TWO, aims, value), False)

    def test_best_papers_need_ends_and_tight_rows(self):
        box = System([(0, 2), (None, None)], [([1, 1], "at most", 3)])
        aims = [[1, 0], [1, 1]]
        self.assert_bool(is_best(box, aims, ([2, 1], [(0, 1)])), True)
        self.assert_bool(is_best(box, aims, ([2, 0], [(0, 1)])), False)
        self.assert_bool(is_best(box, aims, ([2, 0], [(0, 0)])), False)
        self.assert_bool(is_best(box, aims, ([1, 2], [(0, 1)])), False)
        self.assert_bool(is_best(box, [[1, 0]], ([2, 0], [(0,)])), True)
        self.assert_bool(is_best(box, [[-1, 0]], ([0, 5], [(0,)])), False)
        self.assert_bool(is_best(box, [[-1, 0]], ([0, 3], [(0,)])), True)
        self.assert_bool(is_best(box, [[-1, -1]], ([0, 3], [(-1,)])), False)
        self.assert_bool(is_best(box, [[1, 1], [0, 0]], ([2, 1], [(1, -5)])), False)
        self.assert_bool(is_best(System([(0, 1)], [([1], "at most", 1)]), [[1], [0]], ([1], [(1, -5)])), True)
        self.assert_bool(is_best(System([(0, 1)], [([1], "at most", 1)]), [[0], [1]], ([1], [(0, 1)])), True)
        self.assert_bool(is_best(System([(0, 1)], [([1], "at most", 1)]), [[0], [1]], ([1], [(-1, 1)])), False)
        equal = System([(None, None)], [([2], "equals", 1)])
        self.assert_bool(is_best(equal, [[-1]], ([HALF], [(-HALF,)])), True)
        self.assert_bool(is_best(equal, [[-1]], ([HALF], [(HALF,)])), False)

    def test_ways(self):
        aims = [[1, 0]]
        for value in (([0, 0], [1, 0]), ((2, 1), (HALF, 0)), ([Ratio(5), 2], [Ratio(7), 0])):
            self.assert_bool(is_way(ENDLESS, aims, value), True)
            self.assertTrue(leads(ENDLESS, aims, *value))
        for value in ([[0, 0], [1, 0]], ([0, 0], [1, 0], []), ([0, 0],), ([0, 1], [1, 0]), ([0, 0], [0, 0]),
                      ([0, 0], [1, 1]), ([0, 0], [1, -1]), ([0, 0], [-1, 0]), ([0, 0], [1]), ([0, 0], [1, 0, 0]),
                      ([0, 0], [True, 0]), ([0, False], [1, 0]), ([0], [1, 0]), ([-1, -1], [1, 0]), ([0, 0], [1, None])):
            self.assert_bool(is_way(ENDLESS, aims, value), False)
        self.assert_bool(is_way(ENDLESS, [[-1, 0]], ([0, 0], [1, 0])), False)
        self.assert_bool(is_way(ENDLESS, [[0, 1], [1, 0]], ([0, 0], [1, 0])), True)
        self.assert_bool(is_way(ENDLESS, [[-1, 0], [1, 0]], ([0, 0], [1, 0])), False)

    def test_ways_keep_rows(self):
        free = System([(None, None), (None, None)], [([1, 1], "equals", 2), ([1, 0], "at most", 9)])
        self.assert_bool(is_way(free, [[0, 1]], ([1, 1], [-1, 1])), True)
        self.assert_bool(is_way(free, [[1, 0]], ([1, 1], [1, -1])), False)
        self.assert_bool(is_way(free, [[-1, 0]], ([1, 1], [-1, 0])), False)
        self.assert_bool(is_way(free, [[0, 1]], ([1, 1], [0, 1])), False)
        self.assert_bool(is_way(free, [[0, 1]], ([1, 2], [-1, 1])), False)

    def test_judges_like_the_sums(self):
        source = Random(31)
        for _ in range(300):
            system = some_system(source, 3, 3)
            aims = some_aims(source, len(system))
            told = outcome(system, aims)
            if told == "bar":
                self.try_around(source, bar(system), lambda one: is_bar(system, one), lambda one: bars(system, one))
            elif told == "best":
                self.try_around(source, best(system, aims), lambda one: is_best(system, aims, one),
                                lambda one: supports(system, aims, *one))
            else:
                self.try_around(source, way(system, aims), lambda one: is_way(system, aims, one),
                                lambda one: leads(system, aims, *one))

    def try_around(self, source, paper, judge, wanted):
        self.assert_bool(judge(paper), True)
        for _ in range(6):
            changed = self.changed(source, paper)
            self.assert_bool(judge(changed), wanted(changed))

    def changed(self, source, paper):
        """The paper with one number moved, or all of them scaled."""
        parts = [list(part) for part in paper]
        if source.random() < 0.2:
            factor = source.choice([2, -1, HALF, 0])
            return tuple([self.scaled(one, factor) for one in part] for part in parts)
        part = source.choice([part for part in parts if part])
        at = source.randrange(len(part))
        step = source.choice([1, -1, HALF, -HALF])
        if isinstance(part[at], tuple):
            inner = list(part[at])
            place = source.randrange(len(inner))
            inner[place] = inner[place] + step
            part[at] = tuple(inner)
        else:
            part[at] = part[at] + step
        return tuple(parts)

    def scaled(self, one, factor):
        return tuple(part * factor for part in one) if isinstance(one, tuple) else one * factor


if __name__ == "__main__":
    unittest.main()
