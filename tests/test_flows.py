"""[43], [44], the spans of houses in [46], and lateledger/flows.py."""

import unittest
from random import Random

from lateledger.errors import InvalidSet
from lateledger.flows import bound, fewest_set, greatest_volume, is_all_paid, is_greatest, is_least, most_set, narrow
from lateledger.flows import needless, paid_spans
from lateledger.lines import Clearing
from lateledger.ratios import Ratio
from tests.market import ratio
from tests.support import GREAT, Checks, fraction, looks_like, values_of_every_kind
from tests.trust import HOUSES, all_payments, all_sets, bound_by_sums, greatest_of, least_sets, paid_by_sums
from tests.trust import some_clearing, volume_by_sums

HALL = Clearing({"a": 4, "b": -3, "c": -1}, [("a", "c", 2, 0), ("a", "b", 2, 1)])


class FlowsTest(Checks, unittest.TestCase):
    def check_sets(self, hall):
        least, sets = least_sets(hall)
        houses = hall.houses()
        self.assert_same(greatest_volume(hall), ratio(least))
        self.assert_same(fewest_set(hall), [house for house in houses if all(house in some for some in sets)])
        self.assert_same(most_set(hall), [house for house in houses if any(house in some for some in sets)])
        self.assertIn(fewest_set(hall), sets)
        self.assertIn(most_set(hall), sets)
        for some in all_sets(hall):
            self.assert_same(bound(hall, some), ratio(bound_by_sums(hall, some)))
            self.assert_same(bound(hall, tuple(some[::-1])), ratio(bound_by_sums(hall, some)))
            self.assert_bool(is_least(hall, some[::-1]), some in sets)
        self.assert_bool(is_all_paid(hall), least == fraction(hall.all_owed()))

    def check_narrow_and_needless(self, hall):
        least = least_sets(hall)[0]
        pairs = []
        for one in hall.houses():
            for other in hall.houses():
                if one != other:
                    most = sum(line[2] for line in hall.lines() if line[:2] == (one, other))
                    if least_sets(hall + (one, other, most + 1, 0))[0] > least:
                        pairs.append((one, other))
        self.assert_same(narrow(hall), pairs)
        self.assert_same(needless(hall), [line for line in hall.lines() if least_sets(hall - line)[0] == least])

    def test_against_all_sets(self):
        source = Random(331)
        for _ in range(60):
            hall = some_clearing(source, 5, 8, bottom=source.choice([1, 1, 2, 7]))
            self.check_sets(hall)
            self.check_narrow_and_needless(hall)
        self.check_sets(some_clearing(source, 8, 20, 9))

    def test_against_all_payments(self):
        source = Random(332)
        for bottom, many in ((1, 60), (2, 10)):
            for _ in range(many):
                hall = some_clearing(source, 4, 5 if bottom == 1 else 3, bottom=bottom)
                most, greatest = greatest_of(hall, bottom)
                self.assert_same(greatest_volume(hall), ratio(most))
                for payments in all_payments(hall, bottom)[-10:]:
                    self.assert_bool(is_greatest(hall, payments), volume_by_sums(hall, payments) == most)
                sums = [paid_by_sums(hall, payments) for payments in greatest]
                wanted = {house: (ratio(min(one[house] for one in sums)), ratio(max(one[house] for one in sums)))
                          for house in hall.houses()}
                self.assert_same(paid_spans(hall), wanted)

    def test_one_house_that_owes_nothing(self):
        one = Clearing({"a": 0})
        self.assert_same([fewest_set(one), most_set(one), greatest_volume(one), narrow(one), needless(one)],
                         [[], ["a"], Ratio(0), [], []])
        self.assert_same(paid_spans(one), {"a": (Ratio(0), Ratio(0))})
        self.assert_bool(is_all_paid(one), True)
        self.assert_bool(is_greatest(one, []), True)
        self.assert_bool(is_greatest(one, ()), True)
        self.assert_bool(is_least(one, []), True)
        self.assert_bool(is_least(one, ["a"]), True)
        self.check_sets(one)

    def test_eight_houses_and_24_lines(self):
        source = Random(333)
        pairs = [(one, other) for one in HOUSES for other in HOUSES if one != other]
        owed = {house: Ratio(source.randint(-GREAT, GREAT), source.randint(1, GREAT)) for house in HOUSES[1:]}
        owed["a"] = -Ratio.total(list(owed.values()))
        hall = Clearing(owed, [(*pair, source.randint(0, GREAT), source.randint(0, GREAT)) for pair in source.sample(pairs, 24)])
        self.check_sets(hall)
        self.assert_same(narrow(hall), [(one, other) for one in fewest_set(hall) for other in hall.houses()
                                        if other not in most_set(hall)])
        for low, high in paid_spans(hall).values():
            self.assertTrue(low.is_at_most(high))

    def test_wrong_sets(self):
        for value in values_of_every_kind():
            if not isinstance(value, (list, tuple)):
                self.assert_raises(InvalidSet, {"position": None}, bound, HALL, value)
            if not looks_like(value, "a"):
                self.assert_raises(InvalidSet, {"position": 1}, bound, HALL, ["c", value, value])
                self.assert_bool(is_least(HALL, ["a", "c", value]), False)
            self.assert_bool(is_least(HALL, value), False)
        self.assert_raises(InvalidSet, {"position": 2}, bound, clearing=HALL, some=("a", "b", "a", "z"))
        self.assert_bool(is_least(HALL, ("c", "a")), True)
        self.assert_bool(is_least(HALL, ["c", "a", "c"]), False)
        self.assert_bool(is_least(HALL, {"a": 1, "c": 1}), False)

    def test_any_payments(self):
        for value in values_of_every_kind() + [[2, True], [2], [2, 1, 0], [2, 2], {0: 2, 1: 1}, [1, 1]]:
            self.assert_bool(is_greatest(HALL, value), False)
        self.assert_bool(is_greatest(HALL, (2, Ratio(1))), True)

    def test_told_lists_are_new(self):
        self.assert_all_new(lambda: [fewest_set(HALL), most_set(HALL), narrow(HALL), needless(HALL), paid_spans(HALL)])
        fewest_set(HALL).clear()
        narrow(HALL).clear()
        paid_spans(HALL).clear()
        self.assertEqual([fewest_set(HALL), narrow(HALL), len(paid_spans(HALL))], [["a", "c"], [("a", "b"), ("c", "b")], 3])


if __name__ == "__main__":
    unittest.main()
