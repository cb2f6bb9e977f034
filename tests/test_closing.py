"""[76] to [78] and lateledger/closing.py."""

import unittest
from random import Random

from lateledger.closing import Hall
from lateledger.days import Run
from lateledger.errors import InvalidGoods, InvalidHouses, InvalidNumber, TooMany
from lateledger.faults import InvalidDay, InvalidDays, InvalidDeeds, InvalidFact, KnownId
from lateledger.ratios import Ratio
from tests.late import WORDS, PlainHall, plus, some_busy_facts, some_facts, some_market, told
from tests.support import Checks, looks_like, strange_values, values_of_every_kind
from tests.test_days import MANY, NINE, orders

ONE = ("a", 1, "transfer", "ann", "oil", 3)
LATE = [("l", 2, "line", "ben", "ann", 9, 0), ("o", 2, "order", "ann", {"oil": -2}, -3, 1), ("p", 2, "order", "ben", {"oil": 2}, 8, 1)]


def hall_of(deeds=(), houses=("ann", "ben"), goods=("oil",), days=3):
    return Hall(houses, goods, days, deeds)


def tells(facts):
    return [("tell", fact) for fact in facts]


def some_deeds(source, houses, goods, days):
    """Facts and closings, also idle ones."""
    facts = (some_busy_facts if source.random() < 0.6 else some_facts)(source, houses, goods, days, 6)
    deeds = tells(facts)
    for _ in range(source.randint(0, 3)):
        deeds.insert(source.randint(0, len(deeds)), ("close", source.randint(1, days)))
    if deeds and source.random() < 0.5:
        deeds.append(source.choice(deeds))
    return deeds


class HallTest(Checks, unittest.TestCase):
    def state(self, hall):
        days = range(1, hall.days + 1)
        return [repr(hall), hall.closed, repr(hall.run), hall.deeds(), len(hall), hall.corrections(),
                [[hall.told(day), hall.told_entries(day), hall.told_balances(day), hall.correction_of(day)] for day in days]]

    def test_a_new_hall(self):
        hall = Hall(("ben", "ann"), ["oil", "corn"], 3)
        self.assert_same([hall.houses(), hall.goods(), hall.days, hall.closed, hall.deeds(), len(hall)],
                         [["ann", "ben"], ["corn", "oil"], 3, 0, [], 0])
        self.assertEqual(hall.run, Run(["ann", "ben"], ["oil", "corn"], 3))
        self.assertEqual(repr(hall), "Hall(['ann', 'ben'], ['corn', 'oil'], 3)")
        self.assert_same(hall.corrections(), [])
        for day in (1, 2, 3):
            self.assert_same([hall.told(day), hall.told_entries(day), hall.told_balances(day), hall.correction_of(day)], [
                [{}, ({}, {}), {}, {}, {}, {"ann": Ratio(0), "ben": Ratio(0)}, {}, True], [], {}, []])

    def test_wrong_parts(self):
        for value in values_of_every_kind():
            if not isinstance(value, (list, tuple)) or len(value) == 0:
                self.assert_raises(InvalidHouses, {"position": None}, Hall, value, None, None, None)
                self.assert_raises(InvalidGoods, {"position": None}, Hall, ["ann"], value, None, None)
            if not isinstance(value, int) or isinstance(value, bool) or value < 1:
                self.assert_keeps(InvalidDays, value, Hall, ["ann"], ["oil"], value, None)
            if not isinstance(value, (list, tuple)):
                self.assert_raises(InvalidDeeds, {"position": None}, hall_of, value)
            self.assert_raises(InvalidDeeds, {"position": 1}, hall_of, [("tell", ONE), value, None])
        self.assert_raises(InvalidHouses, {"position": 1}, Hall, ["ann", "hall"], ["oil"], 3)
        self.assert_raises(InvalidGoods, {"position": 1}, Hall, ["ann"], ["oil", "ann"], 3)
        # The errors of the run come first, too many of its parts, too.
        self.assert_raises(TooMany, {"what": "houses", "allowed": 8}, Hall, NINE, list("abcde"), 13, None)
        self.assert_raises(TooMany, {"what": "goods", "allowed": 4}, Hall, ["ann"], list("abcde"), 13, None)
        self.assert_raises(TooMany, {"what": "days", "allowed": 12}, Hall, ["ann"], ["oil"], 13, None)

    def test_wrong_deeds(self):
        other = ("a", 1, "transfer", "ann", "oil", 4)
        wrong = [("tell", ONE[:-1]), ("tell", list(ONE)), ["tell", ONE], ("tell", ONE, 1), ("tell",), ("told", ONE), ("close", 0),
                 ("close", 4), ("close", True), ("close", "1"), ("close", ONE), ("tell", 1), ONE, (1, "close"),
                 *[(word, 1) for word in strange_values("close")]]
        for value in wrong:
            self.assert_raises(InvalidDeeds, {"position": 2}, hall_of, [("tell", ONE), ("tell", other), value, None])
        self.assert_raises(KnownId, {"value": "a"}, hall_of, [("tell", ONE), ("close", 2), ("tell", other)])
        self.assert_raises(TooMany, {"what": "orders", "allowed": 12}, hall_of, tells(orders(13)) + [("tell", other)])
        self.assert_raises(KnownId, {"value": "a"}, hall_of, tells([ONE, other] + orders(13)))

    def test_deeds_done_by_the_hall_and_by_hand(self):
        source = Random(771)
        for _ in range(30):
            houses, goods, days = some_market(source)
            deeds = some_deeds(source, houses, goods, days)
            hall = Hall(houses, goods, days)
            for word, what in deeds:
                if word == "tell":
                    run, done = hall.run.with_fact(what)
                    self.assert_same(hall.tell(fact=what), done)
                    self.assertEqual(hall.run, run)
                else:
                    wanted = max(0, what - hall.closed)
                    self.assert_same(hall.close(day=what), wanted)
            again = Hall(houses, goods, days, tuple(deeds))
            self.assertEqual(self.state(again), self.state(hall))
            self.assertTrue(again == hall)
            self.assert_same(hall.deeds(), [(word, told(what) if word == "tell" else what) for word, what in deeds])
            self.assertEqual(len(hall), len(deeds))

    def test_all_that_is_told_by_its_sums(self):
        source = Random(772)
        late = 0
        for _ in range(40):
            houses, goods, days = some_market(source)
            hall, plain = Hall(houses, goods, days), PlainHall(houses, goods, days)
            for deed in some_deeds(source, houses, goods, days):
                kept = [hall.told(day) for day in range(1, hall.closed + 1)]
                hall = Hall(houses, goods, days, hall.deeds() + [deed])
                plain.do(deed)
                self.assertEqual(kept, [hall.told(day) for day in range(1, len(kept) + 1)])
            late += len(plain.corrections())
            self.assert_same([hall.closed, hall.corrections()], [len(plain.kept), plain.corrections()])
            for day in range(1, days + 1):
                corrections, makes, entries, balances = plain.told(day)
                self.assert_same(hall.told(day=day), makes)
                self.assert_same(hall.told_entries(day=day), [corrections] * (corrections != []) + entries)
                self.assert_same(hall.told_balances(day=day), balances)
                self.assert_same(hall.correction_of(day=day), corrections)
        self.assertGreater(late, 20)

    def test_what_is_told_of_closed_days_stays(self):
        source = Random(773)
        for _ in range(25):
            houses, goods, days = some_market(source)
            facts = some_busy_facts(source, houses, goods, days)
            hall, open_hall = Hall(houses, goods, days), Hall(houses, goods, days)
            kept = []
            for fact in facts:
                hall.tell(fact)
                open_hall.tell(fact)
                if source.random() < 0.3:
                    hall.close(min(days, hall.closed + 1))
                now = self.state(hall)[-1][:hall.closed]
                self.assertEqual(now[:len(kept)], kept)
                kept = now
                # From the entry of corrections on all is told as by a hall without closings.
                for day in range(hall.closed + 1, days + 1):
                    self.assertEqual(hall.told(day), open_hall.told(day))
                    self.assertEqual(hall.told_balances(day), open_hall.told_balances(day))
                    self.assertEqual(hall.told_entries(day)[hall.correction_of(day) != []:], open_hall.told_entries(day))
                # The told balances are what all told entries up to the day come to.
                balances = {}
                for day in range(1, days + 1):
                    balances = plus(balances, hall.told_entries(day))
                    self.assertEqual(hall.told_balances(day), balances)
                self.assertEqual(plus({}, [hall.corrections()]), plus(hall.run.balances(hall.closed) if hall.closed else {}, [
                    [(*place, Ratio(0) - number) for place, number in
                     (hall.told_balances(hall.closed) if hall.closed else {}).items()]]))

    def test_the_entry_of_corrections(self):
        hall = hall_of([("close", 1)])
        self.assert_same([hall.corrections(), hall.correction_of(2)], [[], []])
        hall.tell(("b", 2, "transfer", "ann", "oil", 1))
        # A fact of an open day, or one that changes no balances of a closed one, asks for none.
        hall.tell(("q", 1, "quote", {"oil": 1}, 1, None))
        hall.tell(("o", 1, "order", "ann", {"oil": 1}, 1, 1))
        self.assert_same([hall.corrections(), hall.correction_of(2)], [[], []])
        hall.tell(ONE)
        entry = [("ann.goods", "oil", Ratio(3)), ("outside", "oil", Ratio(-3))]
        self.assert_same([hall.corrections(), hall.correction_of(1), hall.correction_of(2), hall.correction_of(3)], [entry, [], entry, []])
        self.assert_same(hall.told_entries(2)[0], entry)
        self.assert_same(hall.told_entries(2)[1:], hall.run.entries(2))
        self.assert_same(hall.told_balances(1), {})
        # Closed with its day it stays there, and a new one stands at the next day.
        self.assert_same(hall.close(2), 1)
        self.assert_same([hall.corrections(), hall.correction_of(2), hall.correction_of(3)], [[], entry, []])
        hall.tell(("d", 1, "transfer", "ann", "coin", 2))
        more = [("ann.coin", "coin", Ratio(2)), ("outside", "coin", Ratio(-2))]
        self.assert_same([hall.corrections(), hall.correction_of(2), hall.correction_of(3)], [more, entry, more])
        # Struck, what is late goes the other way.
        hall.tell(("s", "strike", "a"))
        back = [("ann.coin", "coin", Ratio(2)), ("ann.goods", "oil", Ratio(-3)), ("outside", "coin", Ratio(-2)), ("outside", "oil", Ratio(3))]
        self.assert_same([hall.corrections(), hall.correction_of(2)], [back, entry])
        # Behind the last day it stands by itself if all days are closed.
        self.assert_same(hall.close(3), 1)
        self.assert_same([hall.corrections(), hall.correction_of(3)], [[], back])
        hall.tell(("e", 3, "transfer", "ben", "coin", 7))
        last = [("ben.coin", "coin", Ratio(7)), ("outside", "coin", Ratio(-7))]
        self.assert_same([hall.corrections()] + [hall.correction_of(day) for day in (1, 2, 3)], [last, [], entry, back])

    def test_closing_several_days(self):
        hall = hall_of([("tell", ONE), ("close", 1)])
        hall.tell(("b", 1, "transfer", "ben", "oil", 1))
        entry = hall.corrections()
        self.assert_same([hall.close(3), hall.closed], [2, 3])
        self.assert_same([hall.correction_of(day) for day in (1, 2, 3)], [[], entry, []])
        for day in (1, 2, 3):
            self.assert_same([hall.close(day), hall.closed], [0, 3])
        self.assertEqual(hall.deeds()[2:], [("tell", ("b", 1, "transfer", "ben", "oil", 1)), ("close", 3), ("close", 1), ("close", 2),
                                            ("close", 3)])

    def test_the_example_of_the_overview(self):
        hall = Hall(["a", "b", "c"], ["tea"], 2)
        hall.tell_all(("x", 1, "order", "a", {"tea": -1}, -4, 3), ("y", 1, "order", "b", {"tea": 1}, 7, 2))
        self.assert_same(hall.told(1)[1], ({"x": Ratio(2), "y": Ratio(2)}, {"tea": Ratio(4)}))
        self.assert_same(hall.run.owed(1)["b"], Ratio(8))
        kept = self.state(hall)[-1][0]
        hall.close(1)
        hall.tell(("z", 1, "order", "c", {"tea": 1}, 9, 1))
        self.assertEqual(self.state(hall)[-1][0], kept)
        self.assertIn(("c.goods", "tea", Ratio(1)), hall.correction_of(2))
        self.assertIn(("c.owed", "coin", Ratio(-4)), hall.correction_of(2))
        self.assertEqual(hall.told_balances(2), hall.run.balances(2))

    def test_tell_all_is_whole_or_not_at_all(self):
        hall = hall_of([("close", 2)])
        ahead = self.state(hall)
        for wrong, kind, attributes in ((("l", "strike", "x"), KnownId, {"value": "l"}), (ONE[:-1], InvalidFact, {"value": ONE[:-1]}),
                                        (None, InvalidFact, {"value": None})):
            self.assert_raises(kind, attributes, hall.tell_all, *LATE, wrong, ONE)
            self.assertEqual(self.state(hall), ahead)
        self.assert_same(hall.tell_all(), [])
        self.assertEqual(self.state(hall), ahead)
        other = hall.copy()
        wanted = [other.tell(fact) for fact in (*LATE, LATE[0])]
        self.assert_same(hall.tell_all(*LATE, LATE[0]), wanted)
        self.assertEqual(wanted[-1], [])
        self.assertEqual(self.state(hall), self.state(other))

    def test_a_refused_deed_changes_nothing(self):
        hall = hall_of(tells(LATE + orders(12)) + [("close", 2)])
        ahead = self.state(hall)
        self.assert_raises(KnownId, {"value": "l"}, hall.tell, ("l", 2, "line", "ben", "ann", 9, 1))
        self.assert_raises(TooMany, {"what": "orders", "allowed": 12}, hall.tell, orders(1, 1, 30)[0])
        for value in values_of_every_kind() + [ONE[1:]]:
            self.assert_keeps(InvalidFact, value, hall.tell, value)
        for value in values_of_every_kind() + [4, -1]:
            if not looks_like(value, 1):
                for call in (hall.close, hall.told, hall.told_entries, hall.told_balances, hall.correction_of):
                    self.assert_keeps(InvalidDay, value, call, day=value)
        self.assertEqual(self.state(hall), ahead)

    def test_too_many_facts(self):
        hall = hall_of([("close", 3)])
        hall.tell_all(*[(key, "strike", "zz") for key in MANY[:100]])
        self.assert_raises(TooMany, {"what": "facts", "allowed": 100}, hall.tell, ONE)
        self.assert_same([hall.tell(("aa", "strike", "zz")), len(hall), len(hall.run)], [[], 102, 100])

    def test_as_known_and_copy(self):
        source = Random(774)
        for _ in range(15):
            houses, goods, days = some_market(source)
            deeds = some_deeds(source, houses, goods, days)
            hall = Hall(houses, goods, days, deeds)
            ahead = self.state(hall)
            for many in range(len(deeds) + 1):
                self.assertEqual(self.state(hall.as_known(many=many)), self.state(Hall(houses, goods, days, deeds[:many])))
            other = hall.copy()
            self.assertEqual(self.state(other), ahead)
            other.tell(("new", "strike", "x"))
            other.close(days)
            hall.as_known(0).close(1)
            self.assertEqual(self.state(hall), ahead)
            kept = self.state(other)
            hall.tell(("more", "strike", "x"))
            self.assertEqual(self.state(other), kept)
            self.assertEqual(len(other), len(deeds) + 2)
        hall = hall_of([("tell", ONE)])
        for value in values_of_every_kind() + [2, -1]:
            if not looks_like(value, 0, 1):
                self.assert_keeps(InvalidNumber, value, hall.as_known, value)

    def test_halls_that_are_equal(self):
        source = Random(775)
        for _ in range(20):
            houses, goods, days = some_market(source)
            facts = some_busy_facts(source, houses, goods, days, 4)
            half = len(facts) // 2
            other = source.sample(facts[:half], half) + source.sample(facts[half:], len(facts) - half)
            halls = []
            for some in (facts, other):
                hall = Hall(houses, goods, days)
                hall.tell_all(*some[:half])
                hall.close(1)
                hall.tell_all(*some[half:])
                hall.close(days)
                halls.append(hall)
            self.assert_bool(halls[0] == halls[1], True)
            halls[1].close(1)
            halls[1].tell_all(*facts)
            self.assert_bool(halls[0] == halls[1], True)

    def test_halls_that_are_unlike(self):
        base = [("tell", ONE), ("close", 1), ("tell", LATE[0])]
        hall = hall_of(base)
        for other in (hall_of(base[:2]), hall_of(base[::2]), hall_of(base + [("close", 2)]), hall_of(base, ("ann", "ben", "cy")),
                      hall_of(base, goods=("oil", "tea")), hall_of(base, days=4), hall_of([base[1], base[0], base[2]]),
                      hall_of(base + tells([("s", "strike", "x")]))):
            self.assert_bool(hall == other, False)
            self.assert_bool(hall != other, True)
        for value in values_of_every_kind() + [hall.run]:
            self.assert_bool(hall == value, False)
        self.assert_bool(hall == hall_of(base + base, ["ben", "ann"]), True)

    def test_each_part_of_what_was_told_counts(self):
        late = ("b", 1, "transfer", "ann", "oil", 1)
        # Only the entry of corrections of day 2 is unlike: it came with, or ahead of, what it corrects on day 1.
        one = hall_of([("close", 1), ("tell", late), ("close", 2)])
        other = hall_of([("tell", late), ("close", 2)])
        self.assert_bool(one == other, False)
        self.assertEqual([one.told(2), one.told_balances(2)], [other.told(2), other.told_balances(2)])
        # Only what the step "fair" makes is unlike.
        facts = tells([("f", 1, "future", "dry", {"oil": 1}), ("q", 1, "quote", {"oil": 1}, None, 0)])
        one, other = hall_of(facts[:1] + [("close", 1)] + facts[1:]), hall_of(facts + [("close", 1)])
        self.assert_bool(one == other, False)
        self.assertEqual([one.told_entries(1), one.told_balances(1)], [other.told_entries(1), other.told_balances(1)])

    def test_what_is_told_is_new(self):
        hall = hall_of(tells([ONE, *LATE]) + [("close", 2)] + tells([("b", 1, "transfer", "ben", "oil", 2)]))
        self.assert_all_new(lambda: [hall.houses(), hall.goods(), hall.deeds(), hall.corrections(), hall.copy().deeds()])
        for day in (1, 2, 3):
            self.assert_all_new(lambda: [hall.told(day), hall.told_entries(day), hall.told_balances(day), hall.correction_of(day)])
        ahead = self.state(hall)
        for day in (2, 3):
            hall.told(day)[1][0].clear()
            hall.told(day).clear()
            hall.told_entries(day).clear()
            hall.told_balances(day).clear()
            hall.correction_of(day).clear()
        hall.corrections().clear()
        hall.deeds()[2][1][4].clear()
        hall.run.with_fact(("s", "strike", "a"))
        self.assertEqual(self.state(hall), ahead)
        self.assertEqual(len(hall.told(1)), len(WORDS))

    def test_deeds_are_copied(self):
        bundle = {"oil": 1}
        deeds = [("tell", ("o", 2, "order", "ann", bundle, 1, 1))]
        hall = hall_of(deeds)
        bundle["oil"] = 5
        deeds.clear()
        self.assertEqual(hall.deeds(), [("tell", ("o", 2, "order", "ann", {"oil": 1}, 1, 1))])
        self.assertEqual(hall.run.fact("o")[4], {"oil": 1})


if __name__ == "__main__":
    unittest.main()
