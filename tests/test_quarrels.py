"""[83], [84] and lateledger/quarrels.py."""

import unittest
from itertools import combinations
from random import Random

from lateledger.closing import Hall
from lateledger.deeds import do_agree
from lateledger.faults import InvalidDeeds, InvalidHall
from lateledger.pairing import first_cover, greatest_matching
from lateledger.quarrels import are_best, is_cover, is_matching, least_cover, matching, quarrels
from tests.late import some_market
from tests.support import Checks, strange_values, values_of_every_kind
from tests.test_closing import hall_of, tells
from tests.test_deeds import FACTS, some_deed

TOWN = hall_of()
TOLD = tells([("a", 1, "transfer", "ann", "oil", 3), ("b", 2, "transfer", "ben", "coin", 1), ("s", "strike", "zz")])
SHUT = [("close", 1), ("close", 2)]


def some_log(source, houses, goods, days, most):
    return [some_deed(source, houses, goods, days) for _ in range(source.randint(0, most))]


def least_by_trying(pairs):
    """The first cover, sorted, of those with the fewest deeds, by trying all sets of deeds."""
    places = sorted({(0, left) for left, _ in pairs} | {(1, right) for _, right in pairs})
    for many in range(len(places) + 1):
        for some in combinations(places, many):
            if all((0, left) in some or (1, right) in some for left, right in pairs):
                return list(some)
    return None


def is_matching_by_rule(pairs, found):
    return (all(pair in pairs for pair in found) and len({left for left, _ in found}) == len(found)
            and len({right for _, right in found}) == len(found))


class QuarrelsTest(Checks, unittest.TestCase):
    def test_quarrels_covers_and_matchings(self):
        source = Random(841)
        sizes = set()
        for _ in range(120):
            houses, goods, days = some_market(source)
            hall = Hall(houses, goods, days)
            one, other = (some_log(source, houses, goods, days, 7) for _ in range(2))
            found = quarrels(hall, one, other)
            self.assert_same(found, [(left, right) for left in range(len(one)) for right in range(len(other))
                                     if not do_agree(hall, one[left], other[right])])
            least, pairs = least_cover(hall, one, other), matching(hall, one, other)
            self.assert_same(least, least_by_trying(found))
            self.assertEqual(len(pairs), len(least))
            self.assertTrue(is_matching_by_rule(found, pairs))
            self.assertEqual(pairs, sorted(pairs))
            self.assert_bool(is_cover(hall, one, other, least), True)
            self.assert_bool(is_matching(hall, one, other, pairs), True)
            self.assert_bool(are_best(hall, one, other, least, pairs), True)
            self.assert_all_new(lambda: [quarrels(hall, one, other), least_cover(hall, one, other), matching(hall, one, other)])
            sizes.add(len(least))
            self.check_some_values(source, hall, one, other, found)
        self.assertGreater(len(sizes), 4)

    def check_some_values(self, source, hall, one, other, found):
        places = [(0, at) for at in range(len(one))] + [(1, at) for at in range(len(other))]
        best = len(least_cover(hall, one, other))
        for _ in range(8):
            some = sorted(source.sample(places, source.randint(0, len(places))))
            covers = all((0, left) in some or (1, right) in some for left, right in found)
            self.assert_bool(is_cover(hall, one, other, tuple(some)), covers)
            if len(some) > 1:
                self.assert_bool(is_cover(hall, one, other, some[::-1]), False)
                self.assert_bool(is_cover(hall, one, other, some + some[-1:]), False)
            pairs = source.sample(found, source.randint(0, min(3, len(found))))
            matches = is_matching_by_rule(found, pairs)
            self.assert_bool(is_matching(hall, one, other, pairs), matches)
            self.assert_bool(is_matching(hall, one, other, tuple(pairs[::-1])), matches)
            self.assert_bool(are_best(hall, one, other, some, pairs), covers and matches and len(some) == len(pairs) == best)

    def test_any_pairs(self):
        source = Random(842)
        for _ in range(300):
            pairs = sorted({(source.randint(0, 5), source.randint(0, 5)) for _ in range(source.randint(0, 14))})
            least = least_by_trying(pairs)
            self.assert_same(first_cover(pairs), least)
            self.assertEqual(len(greatest_matching(pairs)), len(least))
            self.assertTrue(is_matching_by_rule(pairs, greatest_matching(pairs)))

    def test_the_first_one_of_the_least_covers(self):
        # Either deed of the only quarrel would do, and of two sides the one comes first.
        self.assert_same(least_cover(TOWN, TOLD[1:2], SHUT), [(0, 0)])
        self.assert_same(least_cover(TOWN, SHUT[1:], TOLD[:2]), [(0, 0)])
        self.assert_same(least_cover(TOWN, TOLD, SHUT), [(1, 0), (1, 1)])
        self.assert_same(least_cover(hall=TOWN, one=SHUT, other=TOLD[:2]), [(0, 0), (0, 1)])

    def test_empty_logs_and_tuples_and_deeds_that_stand_twice(self):
        for one, other in (([], []), (TOLD, []), ((), SHUT)):
            self.assert_same([quarrels(TOWN, one, other), least_cover(TOWN, one, other), matching(TOWN, one, other)], [[], [], []])
            self.assert_bool(is_cover(TOWN, one, other, []), True)
            self.assert_bool(is_matching(TOWN, one, other, ()), True)
            self.assert_bool(are_best(TOWN, one, other, (), []), True)
        self.assert_same(quarrels(hall=TOWN, one=tuple(TOLD[:1] * 3), other=tuple(SHUT[:1] * 2)),
                         [(left, right) for left in range(3) for right in range(2)])
        self.assert_same(least_cover(TOWN, TOLD[:1] * 3, SHUT[:1] * 2), [(1, 0), (1, 1)])
        self.assert_same(quarrels(TOWN, TOLD, TOLD), [])
        self.assert_same(quarrels(TOWN, SHUT, SHUT), [])
        other = ("tell", ("a", 1, "transfer", "ann", "oil", 4))
        self.assert_same(quarrels(TOWN, TOLD, [other, other]), [(0, 0), (0, 1)])

    def test_long_logs(self):
        told = tells([(chr(97 + at), 1, "transfer", "ann", "oil", 1) for at in range(24)])
        self.assertEqual(len(quarrels(TOWN, told, SHUT * 12)), 24 * 24)
        self.assert_same(least_cover(TOWN, told, SHUT * 12), [(0, at) for at in range(24)])
        self.assertEqual(len(matching(TOWN, told, SHUT * 12)), 24)
        for call in (quarrels, least_cover, matching, lambda *parts: is_cover(*parts, []), lambda *parts: is_matching(*parts, []),
                     lambda *parts: are_best(*parts, [], [])):
            self.assert_raises(InvalidDeeds, {"position": None}, call, TOWN, told + told[:1], [])
            self.assert_raises(InvalidDeeds, {"position": None}, call, TOWN, told, told + told[:1])

    def test_errors(self):
        calls = (quarrels, least_cover, matching, lambda *parts: is_cover(*parts, []), lambda *parts: is_matching(*parts, []),
                 lambda *parts: are_best(*parts, [], []))
        for value in values_of_every_kind():
            for call in calls:
                self.assert_keeps(InvalidHall, value, call, value, None, None)
                self.assert_raises(InvalidDeeds, {"position": 1}, call, TOWN, [TOLD[0], value, None], None)
                self.assert_raises(InvalidDeeds, {"position": 0}, call, TOWN, TOLD, (value, None))
                if not isinstance(value, (list, tuple)):
                    self.assert_raises(InvalidDeeds, {"position": None}, call, TOWN, value, [None])
                    self.assert_raises(InvalidDeeds, {"position": None}, call, TOWN, SHUT, value)
        for wrong in (FACTS[0], list(TOLD[0]), ("close", 4), ("close", True), ("tell", ("a", 4, *FACTS[0][2:]))):
            self.assert_raises(InvalidDeeds, {"position": 0}, quarrels, TOWN, [wrong], None)

    def test_covers_and_matchings_of_any_value(self):
        cover, pairs = [(1, 0), (1, 1)], [(0, 0), (1, 1)]
        self.assert_bool(are_best(hall=TOWN, one=TOLD, other=SHUT, cover=cover, pairs=pairs), True)
        for value in values_of_every_kind() + strange_values("a"):
            empty = isinstance(value, (list, tuple)) and len(value) == 0
            self.assert_bool(is_cover(TOWN, TOLD, SHUT, value), False)
            self.assert_bool(is_cover(TOWN, TOLD, SHUT, cover + [value]), False)
            self.assert_bool(is_cover(TOWN, TOLD, SHUT, [(0, value), *cover]), value.__class__ is int and 0 <= value <= 2)
            self.assert_bool(is_cover(TOWN, TOLD, SHUT, [(value, 0), *cover]), value.__class__ is int and value == 0)
            self.assert_bool(is_matching(TOWN, TOLD, SHUT, value), empty)
            self.assert_bool(is_matching(TOWN, TOLD, SHUT, [value]), False)
            self.assert_bool(is_matching(TOWN, TOLD, SHUT, [(value, 0)]), value.__class__ is int and value == 0)
            self.assert_bool(is_matching(TOWN, TOLD, SHUT, [(1, value)]), value.__class__ is int and value == 1)
            self.assert_bool(are_best(TOWN, TOLD, SHUT, value, pairs), False)
            self.assert_bool(are_best(TOWN, TOLD, SHUT, cover, value), False)
        for wrong in ([(1, 0), (1, 2)], [(1, 0)], [(1, 1), (1, 0)], [(1, 0), (1, 0), (1, 1)], [[1, 0], [1, 1]], [(2, 0), (1, 0), (1, 1)],
                      [(0, 3), (1, 0), (1, 1)], [(0, -1), (1, 0), (1, 1)], {(1, 0): 1, (1, 1): 1}, [(1, 0, 0), (1, 1, 0)], [(True, 0), (1, 1)]):
            self.assert_bool(is_cover(TOWN, TOLD, SHUT, wrong), False)
        self.assert_bool(is_cover(TOWN, TOLD, SHUT, [(0, 0), (0, 1), (0, 2), (1, 0), (1, 1)]), True)
        for wrong in ([(0, 0), (0, 1)], [(0, 0), (1, 0)], [(1, 0)], [(0, 0), (0, 0)], [[0, 0]], [(0, 0, 0)], [(0, 2)], [(3, 0)], [(-3, 0)]):
            self.assert_bool(is_matching(TOWN, TOLD, SHUT, wrong), False)
        self.assert_bool(is_matching(TOWN, TOLD, SHUT, [(2, 1), (0, 0)]), True)
        # A cover or a matching that is none of the best, and one that is none at all.
        self.assert_bool(are_best(TOWN, TOLD, SHUT, [(0, 0), *cover], pairs), False)
        self.assert_bool(are_best(TOWN, TOLD, SHUT, cover, pairs[:1]), False)
        self.assert_bool(are_best(TOWN, TOLD, SHUT, cover[:1], pairs[:1]), False)
        self.assert_bool(are_best(TOWN, TOLD, SHUT, cover, [(0, 0), (0, 1)]), False)
        self.assertEqual([len(TOWN), TOWN.closed], [0, 0])


if __name__ == "__main__":
    unittest.main()
