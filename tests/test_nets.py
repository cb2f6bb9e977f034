"""[45], [46] and lateledger/nets.py."""

import unittest
from random import Random

from lateledger.errors import InvalidLine, InvalidPayments, TooMany
from lateledger.flows import is_greatest
from lateledger.lines import Clearing, cost, does_fit, volume
from lateledger.nets import are_potentials, better, first, is_cheapest, is_first, least_cost, line_more, potentials, spans
from lateledger.ratios import Ratio
from tests.market import ratio
from tests.support import GREAT, Checks, fraction, fractions, looks_like, values_of_every_kind
from tests.test_lines import EIGHT, FULL, PAIRS, WRONG_LINES
from tests.trust import all_payments, are_potentials_by_sums, cheapest_of, cost_by_sums, greatest_of, some_clearing
from tests.trust import volume_by_sums

HALL = Clearing({"a": 4, "b": -3, "c": -1}, [("a", "c", 2, 0), ("a", "b", 2, 1)])
RING = Clearing({"a": 1, "b": -1, "c": 0}, [("a", "b", 1, 0), ("b", "c", 1, 0), ("c", "b", 1, 0), ("c", "a", 1, 0)])


class NetsTest(Checks, unittest.TestCase):
    def check_hall(self, hall, bottom):
        least, cheapest = cheapest_of(hall, bottom)
        self.assert_same(first(hall), min(cheapest, key=fractions))
        self.assert_same(least_cost(hall), ratio(least))
        wanted = []
        for at in range(len(hall)):
            told = [fraction(payments[at]) for payments in cheapest]
            wanted.append((ratio(min(told)), ratio(max(told))))
        self.assert_same(spans(hall), wanted)

    def check_payments(self, hall, payments, bottom):
        least, cheapest = cheapest_of(hall, bottom)
        most, _ = greatest_of(hall, bottom)
        is_best = payments in cheapest
        self.assert_bool(is_cheapest(hall, payments), is_best)
        self.assert_bool(is_first(hall, payments), payments == first(hall))
        told, more = potentials(hall, payments), better(hall, payments)
        self.assert_bool(told is None, not is_best)
        self.assert_bool(more is None, is_best)
        if told is not None:
            self.assert_same(told, (dict(told[0]), told[1], told[2]))
            self.assertTrue(all(number.__class__ is Ratio for number in [*told[0].values(), told[1], told[2]]))
            self.assertEqual(list(told[0]), hall.houses())
            self.assertTrue(are_potentials_by_sums(hall, payments, told))
            self.assert_bool(are_potentials(hall, payments, told), True)
        else:
            self.assertTrue(all(number.__class__ is Ratio for number in more))
            self.assert_bool(does_fit(hall, more), True)
            if volume_by_sums(hall, payments) == most:
                self.assertEqual(volume_by_sums(hall, more), most)
                self.assertLess(cost_by_sums(hall, more), cost_by_sums(hall, payments))
            else:
                self.assertGreater(volume_by_sums(hall, more), volume_by_sums(hall, payments))

    def test_against_all_payments(self):
        source = Random(341)
        for bottom, many in ((1, 50), (2, 8)):
            for _ in range(many):
                hall = some_clearing(source, 4, 5 if bottom == 1 else 3, bottom=bottom)
                self.check_hall(hall, bottom)
                found = all_payments(hall, bottom)
                for payments in source.sample(found, min(5, len(found))) + greatest_of(hall, bottom)[1][:4]:
                    self.check_payments(hall, payments, bottom)

    def test_potentials_against_their_sums(self):
        source = Random(342)
        for _ in range(80):
            hall = some_clearing(source)
            found = all_payments(hall)
            for payments in source.sample(found, min(4, len(found))):
                for _ in range(6):
                    told = ({house: Ratio(source.randint(-2, 2), source.choice([1, 1, 2])) for house in hall.houses()},
                            source.randint(-1, 1), Ratio(source.randint(-1, 2)))
                    wanted = are_potentials_by_sums(hall, payments, told)
                    self.assert_bool(are_potentials(hall, payments, told), wanted)
                    if wanted and is_greatest(hall, payments):
                        self.assert_bool(is_cheapest(hall, payments), True)

    def test_potentials_a_little_otherwise(self):
        source, counts = Random(345), [0, 0]
        for _ in range(60):
            hall = some_clearing(source)
            payments = first(hall)
            told = potentials(hall, payments)
            for house in [*hall.houses(), 1, 2]:
                for part in (-1, Ratio(-1, 2), Ratio(1, 2), 1):
                    places = {**told[0], house: told[0][house] + part} if house in told[0] else told[0]
                    other = (places, *[number + part if at == house else number for at, number in enumerate(told) if at > 0])
                    wanted = are_potentials_by_sums(hall, payments, other)
                    counts[wanted] += 1
                    self.assert_bool(are_potentials(hall, payments, other), wanted)
        self.assertGreater(min(counts), 100)

    def test_rings_that_cost_nothing(self):
        self.check_hall(RING, 1)
        self.assert_same(first(RING), [Ratio(1), Ratio(0), Ratio(0), Ratio(0)])
        self.assert_bool(is_cheapest(RING, [1, Ratio(1, 2), 0, Ratio(1, 2)]), True)
        self.assert_bool(is_first(RING, [1, Ratio(1, 2), 0, Ratio(1, 2)]), False)
        self.assert_bool(is_first(RING, (1, 0, Ratio(0), 0)), True)
        self.assert_same(spans(RING)[1::2], [(Ratio(0), Ratio(1)), (Ratio(0), Ratio(1))])

    def test_lines_more(self):
        source = Random(343)
        for _ in range(40):
            hall = some_clearing(source, 4, 4)
            houses = hall.houses()
            if len(houses) > 1:
                line = (*source.sample(houses, 2), source.randint(0, 4), source.randint(0, 3))
                most, least = greatest_of(hall)[0], cheapest_of(hall + line)[0]
                self.assert_same(line_more(hall, line), (ratio(greatest_of(hall + line)[0] - most), ratio(least)))
        self.assert_same(line_more(clearing=HALL, line=("a", "b", 0, 5)), (Ratio(-2), Ratio(0)))
        self.assert_same(line_more(HALL, ("a", "b", 3, 5)), (Ratio(1), Ratio(15)))
        for wrong in values_of_every_kind() + WRONG_LINES:
            self.assert_keeps(InvalidLine, wrong, line_more, HALL, wrong)
        self.assert_raises(TooMany, {"what": "lines", "allowed": 24}, line_more, Clearing(EIGHT, FULL), (*PAIRS[24], 1, 1))

    def test_wrong_payments(self):
        for value in values_of_every_kind() + [[2, True], [2], [2, 1, 0], [2, 2], {0: 2, 1: 1}]:
            if not looks_like(value, (1, 2)):
                self.assert_bool(is_cheapest(HALL, value), False)
                self.assert_bool(is_first(HALL, value), False)
                self.assert_keeps(InvalidPayments, value, potentials, HALL, value)
                self.assert_keeps(InvalidPayments, value, are_potentials, HALL, value, None)
                self.assert_keeps(InvalidPayments, value, better, clearing=HALL, payments=value)

    def test_any_potentials(self):
        payments = [2, 1]
        right = ({"a": 0, "b": 2, "c": 0}, 0, 0)
        told = potentials(HALL, payments)
        self.assert_bool(are_potentials(HALL, payments, told), True)
        for value in values_of_every_kind():
            self.assert_bool(are_potentials(HALL, payments, value), False)
            for at in range(3):
                if not (at and value.__class__ in (int, Ratio)):
                    self.assert_bool(are_potentials(HALL, payments, told[:at] + (value,) + told[at + 1:]), False)
        for wrong in (list(told), told[:2], (*told, 0), ({**told[0], "d": 0}, *told[1:]), ({"a": 0, "b": 0}, 0, 0),
                      ({"a": 0, "b": 1, True: 0}, 0, 0), ({"a": False, "b": 0, "c": 0}, 0, 0), (*told[:2], True)):
            self.assert_bool(are_potentials(HALL, payments, wrong), False)
        self.assert_bool(are_potentials(HALL, payments, right), are_potentials_by_sums(HALL, payments, right))
        nothing = Clearing({"a": 1, "b": -1}, [("a", "b", 1, 3)])
        self.assert_bool(are_potentials(nothing, [0], ({"a": 0, "b": 3}, 0, 3)), True)
        self.assert_bool(are_potentials(nothing, [0], ({"a": 0, "b": 4}, 0, 3)), False)
        self.assertIsNone(potentials(nothing, [0]))
        self.assert_same(better(nothing, [0]), [Ratio(1)])

    def test_great_numbers(self):
        source = Random(344)
        owed = {house: Ratio(source.randint(-GREAT, GREAT), source.randint(1, GREAT)) for house in "bcdefgh"}
        owed["a"] = -Ratio.total(list(owed.values()))
        for sizes in (GREAT, 10 ** 3):
            lines = [(*pair, source.randint(0, sizes), source.randint(0, GREAT)) for pair in source.sample(PAIRS, 24)]
            hall = Clearing(owed, lines)
            told = first(hall)
            self.assert_told_short([told, potentials(hall, told), spans(hall)])
            self.assert_bool(are_potentials(hall, told, potentials(hall, told)), True)
            self.assertEqual(cost(hall, told), least_cost(hall))
            nothing = [0] * 24
            self.assertTrue(volume(hall, nothing).is_below(volume(hall, better(hall, nothing))))

    def test_without_lines(self):
        hall = Clearing({"a": 1, "b": -1})
        self.assert_same([first(hall), least_cost(hall), spans(hall), better(hall, [])], [[], Ratio(0), [], None])
        self.assert_bool(are_potentials(hall, [], potentials(hall, [])), True)

    def test_told_lists_are_new(self):
        self.assert_all_new(lambda: [first(HALL), spans(HALL), potentials(HALL, [2, 1]), better(HALL, [0, 0])])
        first(HALL).clear()
        potentials(HALL, [2, 1])[0].clear()
        self.assertEqual(first(HALL), [Ratio(2), Ratio(1)])
        self.assertEqual(len(potentials(HALL, [2, 1])[0]), 3)


if __name__ == "__main__":
    unittest.main()
