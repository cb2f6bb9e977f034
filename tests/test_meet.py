"""[83], [84] and lateledger/meet.py."""

import unittest
from itertools import product
from random import Random

from lateledger.closing import Hall
from lateledger.errors import InvalidNumber, TooMany
from lateledger.faults import InvalidDeeds, InvalidHall, KnownId
from lateledger.meet import how_many_ends, lean, met, ran, weavings
from lateledger.quarrels import least_cover, quarrels
from tests.late import some_market, told
from tests.support import Checks, looks_like, values_of_every_kind
from tests.test_closing import hall_of, some_deeds, tells
from tests.test_days import ONE, orders
from tests.test_deeds import done, some_deed
from tests.test_quarrels import SHUT, TOLD, some_log

TOWN = hall_of()


def all_weavings(many, more):
    return [list(sides) for sides in product([0, 1], repeat=many + more) if sum(sides) == more]


def woven(one, other, sides):
    logs = [iter(one), iter(other)]
    return [next(logs[side]) for side in sides]


def behind(hall, deeds):
    new = hall.copy()
    done(new, deeds)
    return new


def lean_by_rule(hall, log):
    """The positions of the deeds that are neither refused nor idle."""
    new, found = hall.copy(), []
    for at, (word, what) in enumerate(log):
        facts, closed = new.run.facts(), new.closed
        try:
            new.tell(what) if word == "tell" else new.close(what)
        except (KnownId, TooMany):
            continue
        if new.run.facts() != facts or new.closed != closed:
            found.append(at)
    return found


def meets_too_many(hall, one, other):
    return any(done(hall.copy(), woven(one, other, sides)) for sides in all_weavings(len(one), len(other)))


class MeetTest(Checks, unittest.TestCase):
    def some_case(self, source, most=6):
        houses, goods, days = some_market(source)
        hall = Hall(houses, goods, days, some_deeds(source, houses, goods, days) if source.random() < 0.5 else [])
        return hall, some_log(source, houses, goods, days, most), some_log(source, houses, goods, days, most)

    def test_ran_and_lean(self):
        source = Random(851)
        left = 0
        for _ in range(80):
            hall, log, _ = self.some_case(source, 12)
            kept = hall.copy()
            wanted = behind(hall, log)
            self.assert_same(ran(hall, log).deeds(), wanted.deeds())
            self.assertEqual(ran(hall=hall, log=tuple(log)), wanted)
            places = lean_by_rule(hall, log)
            self.assert_same(lean(hall, log), [(log[at][0], told(log[at][1]) if log[at][0] == "tell" else log[at][1]) for at in places])
            self.assertEqual(ran(hall, lean(hall, log)), wanted)
            self.assert_same(lean(hall, lean(hall, log)), lean(hall, log))
            self.assertEqual([hall, hall.deeds()], [kept, kept.deeds()])
            left += len(log) - len(places)
        self.assertGreater(left, 60)

    def test_what_is_left_out(self):
        bundle = {"oil": 1, "tea": 0}
        hall = hall_of(goods=("oil", "tea"))
        order = ("tell", ("o", 2, "order", "ann", bundle, 1, 1))
        log = [order, order, ("close", 2), ("close", 1), ("tell", ("o", "strike", "x")), ("tell", ("s", "strike", "x")), ("close", 3)]
        clean = ("tell", ("o", 2, "order", "ann", {"oil": 1}, 1, 1))
        self.assert_same(lean(hall, log), [clean, ("close", 2), ("tell", ("s", "strike", "x")), ("close", 3)])
        # Idle deeds are done, those that are refused are not, also if they are too many.
        self.assert_same(ran(hall, log).deeds(), [clean, clean, *log[2:4], *log[5:]])
        self.assert_same(lean(TOWN, tells(orders(13)) + [("close", 1)]), tells(orders(12)) + [("close", 1)])
        self.assertEqual(len(ran(TOWN, tells(orders(13))).run), 12)
        self.assert_same([lean(TOWN, []), len(ran(TOWN, ()))], [[], 0])
        lean(hall, log)[0][1][4].clear()
        self.assertEqual(bundle, {"oil": 1, "tea": 0})
        self.assert_all_new(lambda: lean(hall, log))

    def test_weavings(self):
        for many in range(7):
            for more in range(7):
                self.assert_same(list(weavings(many, more)), all_weavings(many, more))
        self.assert_same(list(weavings(0, 0)), [[]])
        self.assertEqual([len(list(weavings(6, 6))), list(weavings(many=1, more=2))], [924, [[0, 1, 1], [1, 0, 1], [1, 1, 0]]])
        found = weavings(1, 1)
        self.assertEqual([next(found), next(found), next(found, None)], [[0, 1], [1, 0], None])
        self.assert_all_new(lambda: list(weavings(2, 3)))
        for value in values_of_every_kind() + [7, -1]:
            if not looks_like(value, 0, 1):
                self.assert_keeps(InvalidNumber, value, lambda: list(weavings(value, None)))
                self.assert_keeps(InvalidNumber, value, lambda: list(weavings(6, value)))

    def test_met(self):
        source = Random(852)
        without, some = 0, 0
        for _ in range(60):
            hall, one, other = self.some_case(source, 5)
            kept = hall.copy()
            left_out, end = met(hall, one, other)
            logs = (one, other)
            places = [lean_by_rule(hall, log) for log in logs]
            least = least_cover(hall, *[[log[at] for at in some] for log, some in zip(logs, places)])
            self.assert_same(left_out, [(side, places[side][at]) for side, at in least])
            rest = [[log[at] for at in some if (side, at) not in left_out] for side, (log, some) in enumerate(zip(logs, places))]
            self.assert_same(end.deeds(), behind(hall, rest[0] + rest[1]).deeds())
            self.assertEqual(quarrels(hall, *rest), [])
            if len(rest[0]) + len(rest[1]) <= 7 and not meets_too_many(hall, *rest):
                for sides in all_weavings(len(rest[0]), len(rest[1])):
                    self.assertEqual(behind(hall, woven(*rest, sides)), end)
                without += len(left_out) == 0
                some += len(left_out) > 0
            self.assertEqual([hall, hall.deeds()], [kept, kept.deeds()])
        self.assertGreater(min(without, some), 10)

    def test_met_by_positions_in_the_passed_logs(self):
        # The first deed of the one is idle, so it is not run, but counted.
        hall = hall_of([TOLD[2]])
        one, other = [TOLD[2], TOLD[1]], [("close", 1), ("close", 1), ("close", 2)]
        left_out, end = met(hall=hall, one=one, other=other)
        self.assert_same([left_out, end.closed, end.run.facts()], [[(0, 1)], 2, [TOLD[2][1]]])
        left_out, end = met(hall, other, tuple(one))
        self.assert_same([left_out, end.closed, len(end.run)], [[(0, 2)], 1, 2])
        self.assert_same(met(TOWN, [], [])[0], [])
        self.assertEqual(met(TOWN, TOLD, TOLD)[1], ran(TOWN, TOLD))
        self.assert_same(met(TOWN, TOLD, TOLD)[0], [])
        self.assert_all_new(lambda: met(TOWN, TOLD, SHUT)[0])
        # Each log is made lean by itself: a fact that both tell is told by the other one, too.
        left_out, end = met(TOWN, [("tell", ONE)], [("tell", ONE), ("close", 1)])
        self.assert_same([left_out, end.closed, len(end.run)], [[(0, 0)], 1, 1])

    def test_how_many_ends(self):
        source = Random(853)
        counts = {}
        for _ in range(50):
            hall, one, other = self.some_case(source, 4)
            kept = hall.copy()
            ends = []
            for sides in all_weavings(len(one), len(other)):
                end = behind(hall, woven(one, other, sides))
                if not any(end == known for known in ends):
                    ends.append(end)
            self.assert_same(how_many_ends(hall, one, other), len(ends))
            if not quarrels(hall, one, other) and not meets_too_many(hall, one, other):
                self.assertEqual(len(ends), 1)
            counts[len(ends)] = True
            self.assertEqual([hall, hall.deeds()], [kept, kept.deeds()])
        self.assertGreater(len(counts), 3)

    def test_how_many_ends_of_few_and_many_deeds(self):
        self.assert_same([how_many_ends(TOWN, [], []), how_many_ends(TOWN, TOLD * 2, [])], [1, 1])
        self.assert_same(how_many_ends(hall=TOWN, one=TOLD[:2], other=SHUT[:1]), 2)
        six = tells([(key, 1, "transfer", "ann", "oil", 1) for key in "abcdef"])
        self.assert_same(how_many_ends(TOWN, six, SHUT[:1] * 6), 7)
        # What was told of day 1, and what of its corrections on day 2: at each place in the sequence of the facts.
        self.assert_same(how_many_ends(TOWN, six, tuple(SHUT * 3)), 28)
        # Logs as passed, not made lean; orders that are too many are left out, so that it matters which came first.
        full = hall_of(tells(orders(11)))
        self.assert_same(how_many_ends(full, tells(orders(1, 1, 20)), tells(orders(1, 1, 30))), 2)
        for one, other in ((six + six[:1], []), ([], six + six[:1]), (six + six, six + six)):
            self.assert_raises(TooMany, {"what": "deeds", "allowed": 6}, how_many_ends, TOWN, one, other)

    def test_errors(self):
        for value in values_of_every_kind():
            for call in (ran, lean):
                self.assert_keeps(InvalidHall, value, call, value, None)
                self.assert_raises(InvalidDeeds, {"position": 1}, call, TOWN, [TOLD[0], value, None])
                if not isinstance(value, (list, tuple)):
                    self.assert_raises(InvalidDeeds, {"position": None}, call, TOWN, value)
            for call in (met, how_many_ends):
                self.assert_keeps(InvalidHall, value, call, value, None, None)
                self.assert_raises(InvalidDeeds, {"position": 0}, call, TOWN, [value], None)
                self.assert_raises(InvalidDeeds, {"position": 7}, call, TOWN, [], TOLD[:1] * 7 + [value])
                if not isinstance(value, (list, tuple)):
                    self.assert_raises(InvalidDeeds, {"position": None}, call, TOWN, value, [None])
                    self.assert_raises(InvalidDeeds, {"position": None}, call, TOWN, [], value)
        for call in (ran, lean):
            self.assert_raises(InvalidDeeds, {"position": None}, call, TOWN, TOLD[:1] * 25)
            call(TOWN, TOLD[:1] * 24)
        self.assert_raises(InvalidDeeds, {"position": None}, met, TOWN, [], TOLD[:1] * 25)

    def test_some_deeds_that_agree_with_all(self):
        source = Random(854)
        for _ in range(20):
            houses, goods, days = some_market(source)
            hall = Hall(houses, goods, days)
            one = [some_deed(source, houses, goods, days) for _ in range(3)]
            self.assert_same(how_many_ends(hall, one, []), 1)


if __name__ == "__main__":
    unittest.main()
