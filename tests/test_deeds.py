"""[81], [82] and lateledger/deeds.py."""

import unittest
from random import Random

from lateledger.closing import Hall
from lateledger.deeds import do_agree, do_part_at, is_deed, is_parting, parting, reaches
from lateledger.errors import TooMany
from lateledger.faults import InvalidDay, InvalidDeed, InvalidFact, InvalidHall, KnownId
from lateledger.days import Run
from tests.late import IDS, KINDS, some_fact, some_market, told
from tests.support import GREAT, Checks, looks_like, strange_values, values_of_every_kind
from tests.test_closing import hall_of, some_deeds, tells
from tests.test_days import MANY, ONE, orders

TOWN = hall_of()
FACTS = [
    ("a", 2, "transfer", "ann", "oil", 3), ("b", 2, "order", "ben", {"oil": 1}, 5, 2), ("c", 2, "line", "ann", "ben", 0, 0),
    ("d", 2, "move", "oil", None, -3), ("e", 2, "future", "dry", {"oil": -1}), ("f", 2, "quote", {"oil": -2}, None, 7),
    ("g", "strike", "a"),
]


def some_deed(source, houses, goods, days):
    if source.random() < 0.3:
        return ("close", source.randint(1, days))
    return ("tell", some_fact(source, houses, goods, days, source.choice(IDS[:3])))


def do_agree_by_rule(one, other):
    """[82]."""
    facts = [told(deed[1]) for deed in (one, other) if deed[0] == "tell"]
    if len(facts) == 2:
        return facts[0][0] != facts[1][0] or facts[0] == facts[1]
    if len(facts) == 0:
        return True
    day = one[1] if one[0] == "close" else other[1]
    return not (facts[0][1] == "strike" or facts[0][1] <= day)


def done(hall, deeds):
    """Whether some deed met TooMany; those that are refused are left out."""
    met = False
    for word, what in deeds:
        try:
            hall.tell(what) if word == "tell" else hall.close(what)
        except KnownId:
            pass
        except TooMany:
            met = True
    return met


def parts(hall, one, other, deeds):
    """Whether this is a parting, by halls made here."""
    if not isinstance(deeds, list) or len(deeds) > 24:
        return False
    ends = []
    for some in ([one, other], [other, one]):
        # A hall of these deeds raises an error if one of them is refused, or is none.
        new = Hall(hall.houses(), hall.goods(), hall.days, deeds)
        if done(new, some):
            return False
        ends.append(new)
    return ends[0] != ends[1]


class DeedsTest(Checks, unittest.TestCase):
    def check_pair(self, hall, one, other):
        agree = do_agree_by_rule(one, other)
        for left, right in ((one, other), (other, one)):
            self.assert_bool(do_agree(hall, left, right), agree)
            found = parting(hall, left, right)
            if agree:
                self.assertIsNone(found)
                self.assert_bool(is_parting(hall, left, right, []), False)
            else:
                self.assertTrue(parts(hall, left, right, found), (left, right, found))
                self.assert_bool(is_parting(hall, left, right, found), True)
                self.assert_bool(is_parting(hall, right, left, tuple(found)), True)
                self.assert_bool(do_part_at(Hall(hall.houses(), hall.goods(), hall.days, found), left, right), True)

    def test_is_deed(self):
        for fact in FACTS:
            self.assert_bool(is_deed(TOWN, ("tell", fact)), True)
            for wrong in (fact, ("told", fact), ["tell", fact], ("tell", list(fact)), ("tell", fact[:-1]), ("tell", fact, 1), ("close", fact)):
                self.assert_bool(is_deed(TOWN, wrong), False)
        for day in (1, 2, 3):
            self.assert_bool(is_deed(hall=TOWN, value=("close", day)), True)
        for value in values_of_every_kind() + [0, 4]:
            if not looks_like(value, 1):
                self.assert_bool(is_deed(TOWN, ("close", value)), False)
            self.assert_bool(is_deed(TOWN, value), False)
            self.assert_bool(is_deed(TOWN, ("tell", value)), False)
            self.assert_bool(is_deed(TOWN, (value, 1)), False)
        for value in strange_values("tell", "close"):
            self.assert_bool(is_deed(TOWN, (value, 1)), False)
            self.assert_bool(is_deed(TOWN, (value, FACTS[0])), False)

    def test_no_halls(self):
        one = ("tell", FACTS[0])
        for value in values_of_every_kind() + [Run(["ann", "ben"], ["oil"], 3)]:
            for call in (lambda: is_deed(value, one), lambda: reaches(value, None, None), lambda: do_agree(value, None, None),
                         lambda: parting(value, None, None), lambda: is_parting(value, None, None, []),
                         lambda: do_part_at(value, None, None)):
                self.assert_keeps(InvalidHall, value, call)

    def test_no_deeds(self):
        one = ("close", 1)
        for value in values_of_every_kind() + [("close", 4), ("close", True), ("tell", ("a", 4, *FACTS[0][2:])), FACTS[0]]:
            for call in (do_agree, parting, do_part_at, lambda *parts: is_parting(*parts, [])):
                self.assert_keeps(InvalidDeed, value, call, TOWN, value, None)
                self.assert_keeps(InvalidDeed, value, call, TOWN, one, value)
        # The first one that is none.
        self.assert_keeps(InvalidDeed, 1, do_agree, hall=TOWN, one=1, other=2)

    def test_reaches(self):
        for fact in FACTS:
            for day in (1, 2, 3):
                self.assert_bool(reaches(hall=TOWN, fact=fact, day=day), fact[1] == "strike" or day >= 2)
        for value in values_of_every_kind() + [("a", 4, *FACTS[0][2:]), ("tell", FACTS[0])]:
            self.assert_keeps(InvalidFact, value, reaches, TOWN, value, None)
            if not looks_like(value, 1):
                self.assert_keeps(InvalidDay, value, reaches, TOWN, FACTS[0], value)
        for day in (0, 4, -1, GREAT):
            self.assert_keeps(InvalidDay, day, reaches, TOWN, FACTS[-1], day)

    def test_each_pair_of_words(self):
        deeds = tells(FACTS) + [("close", day) for day in (1, 2, 3)]
        deeds += tells([("a", *fact[1:]) for fact in FACTS[1:-1]] + [("a", "strike", "b"), ("b", 2, "order", "ben", {"oil": 1}, 5, 3)])
        deeds += tells([(fact[0], 3, *fact[2:]) for fact in FACTS[:-1]])
        for one in deeds:
            for other in deeds:
                self.check_pair(TOWN, one, other)

    def test_some_pairs(self):
        source = Random(821)
        quarrels = 0
        for _ in range(250):
            houses, goods, days = some_market(source)
            hall = Hall(houses, goods, days, some_deeds(source, houses, goods, days))
            one, other = some_deed(source, houses, goods, days), some_deed(source, houses, goods, days)
            self.check_pair(hall, one, other)
            quarrels += not do_agree(hall, one, other)
        self.assertGreater(quarrels, 60)

    def test_facts_of_each_word_and_a_closing_in_small_and_large_halls(self):
        source = Random(822)
        for houses, goods, days in ((["ann"], ["oil"], 1), (["ann", "ben"], ["oil"], 1), (["ann"], ["oil", "tea"], 12),
                                    (["h" * at for at in range(1, 9)], ["corn", "oil", "tea", "wax"], 12)):
            hall = Hall(houses, goods, days)
            for word in KINDS:
                for key in ("a", "b") if days == 12 else ("a", "b", "c", "z"):
                    fact = some_fact(source, houses, goods, days, key, word)
                    for day in sorted({max(1, day + more) for day in (fact[1], days) if day != "strike" for more in (-1, 0)}):
                        self.check_pair(hall, ("tell", fact), ("close", day))

    def test_conditions_of_each_kind(self):
        hall = hall_of(goods=("oil", "tea"))
        for pair in (("oil", None), (None, "tea"), ("oil", "tea"), ("tea", "oil")):
            for most in (-GREAT, -1, 0, 1, GREAT):
                for key in ("a", "b", "x"):
                    self.check_pair(hall, ("tell", (key, 2, "move", *pair, most)), ("close", 3))

    def test_quotes_and_futures_of_each_kind(self):
        hall = hall_of(goods=("oil", "tea"))
        for bundle in ({"oil": 1}, {"oil": -1}, {"oil": 3, "tea": -5}, {"oil": 0, "tea": 7}, {"oil": GREAT}, {"tea": -GREAT, "oil": 1}):
            for key in ("a", "b", "x"):
                self.check_pair(hall, ("tell", (key, 1, "future", "any", bundle)), ("close", 1))
                for bid, ask in ((None, 0), (None, 1), (None, -1), (None, 50), (0, None), (-1, None), (1, None), (-50, None),
                                 (-9, 9), (-9, 8), (-8, 9), (5, 3), (None, GREAT), (-GREAT, None), (GREAT, None), (None, -GREAT)):
                    self.check_pair(hall, ("tell", (key, 2, "quote", bundle, bid, ask)), ("close", 2))

    def test_strikings(self):
        hall = hall_of()
        for fact in (("a", "strike", "b"), ("b", "strike", "a"), ("x", "strike", "c")):
            for day in (1, 2, 3):
                self.check_pair(hall, ("tell", fact), ("close", day))
            for other in FACTS:
                self.check_pair(hall, ("tell", fact), ("tell", other))

    def test_deeds_that_agree_end_alike_wherever_they_are_done(self):
        source = Random(823)
        tried = 0
        while tried < 250:
            houses, goods, days = some_market(source)
            hall = Hall(houses, goods, days, some_deeds(source, houses, goods, days))
            one, other = some_deed(source, houses, goods, days), some_deed(source, houses, goods, days)
            if do_agree_by_rule(one, other):
                tried += 1
                self.assert_bool(do_part_at(hall, one, other), False)

    def test_do_part_at_this_very_hall(self):
        source = Random(824)
        found = 0
        for _ in range(200):
            houses, goods, days = some_market(source)
            deeds = some_deeds(source, houses, goods, days)
            hall = Hall(houses, goods, days, deeds)
            one, other = some_deed(source, houses, goods, days), some_deed(source, houses, goods, days)
            ends = [Hall(houses, goods, days, deeds) for _ in range(2)]
            done(ends[0], [one, other])
            done(ends[1], [other, one])
            self.assert_bool(do_part_at(hall, one, other), ends[0] != ends[1])
            self.assertEqual([hall, hall.deeds()], [Hall(houses, goods, days, deeds), Hall(houses, goods, days, deeds).deeds()])
            found += ends[0] != ends[1]
        self.assertGreater(found, 30)
        # They quarrel, and yet here nothing parts them: the day is closed already, or the fact is there, or refused.
        one, shut = ("tell", FACTS[0]), ("close", 2)
        for deeds in ([shut], [one], tells([("a", "strike", "b")])):
            self.assert_bool(do_part_at(hall_of(deeds), one, shut), False)
        self.assert_bool(do_part_at(hall_of(), one=one, other=shut), True)
        # One of two orders is one too many, whichever comes last: left out.
        full = hall_of(tells(orders(11)))
        last = tells(orders(2, 1, 20))
        self.assert_bool(do_agree(full, *last), True)
        self.assert_bool(do_part_at(full, *last), True)

    def test_is_parting_of_any_value(self):
        one, shut = ("tell", FACTS[3]), ("close", 2)
        told_one = parting(TOWN, one, shut)
        self.assert_bool(is_parting(TOWN, one, shut, told_one), True)
        self.assert_bool(is_parting(TOWN, one, shut, []), False)
        for value in values_of_every_kind():
            self.assert_bool(is_parting(TOWN, one, shut, value), False)
            self.assert_bool(is_parting(TOWN, one, shut, told_one + [value]), False)
        # Deeds that are refused, also for too many; idle ones may stand among them, but not more than 24 deeds.
        self.assert_bool(is_parting(TOWN, one, shut, told_one + told_one), True)
        self.assert_bool(is_parting(TOWN, one, shut, told_one + [("tell", (told_one[0][1][0], "strike", "zz"))]), False)
        self.assert_bool(is_parting(TOWN, one, shut, told_one * 24), True)
        self.assert_bool(is_parting(TOWN, one, shut, told_one * 25), False)
        self.assert_bool(is_parting(TOWN, one, shut, told_one + tells(orders(13))), False)
        self.assert_bool(is_parting(TOWN, one, shut, told_one + tells(orders(12))), True)
        # What both deeds come to is too many.
        order = ("tell", orders(1, 1, 30)[0])
        self.assert_bool(is_parting(TOWN, order, ("close", 1), []), True)
        self.assert_bool(is_parting(TOWN, order, ("close", 1), tells(orders(12))), False)
        self.assert_bool(is_parting(TOWN, order, ("close", 1), [("close", 1)]), False)
        # The fact is there, or its id is: both sequences end alike.
        self.assert_bool(is_parting(TOWN, one, shut, told_one + [one]), False)
        self.assert_bool(is_parting(TOWN, one, shut, told_one + tells([("d", "strike", "x")])), False)
        self.assert_bool(is_parting(TOWN, one, shut, [*told_one, ("close", 1)]), True)
        # A parting of a larger hall is none of a smaller one.
        larger = hall_of(goods=("oil", "tea"))
        tea = ("tell", ("t", 1, "transfer", "ben", "tea", 1))
        self.assert_bool(is_parting(larger, one, shut, told_one + [tea]), True)
        self.assert_bool(is_parting(hall=TOWN, one=one, other=shut, value=told_one + [tea]), False)

    def test_two_facts_with_one_id(self):
        for other in (("a", 2, "transfer", "ann", "oil", 4), ("a", "strike", "b"), ("a", 1, "order", "ann", {"oil": 1}, 1, 1)):
            self.assert_bool(do_agree(TOWN, ("tell", FACTS[0]), ("tell", other)), False)
            self.assertTrue(parts(TOWN, ("tell", FACTS[0]), ("tell", other), parting(TOWN, ("tell", FACTS[0]), ("tell", other))))
        one = ("tell", ("b", 2, "order", "ben", {"oil": 1, }, 5, 2))
        same = ("tell", ("b", 2, "order", "ben", {"oil": 1, "tea": 0}, 5, 2))
        hall = hall_of(goods=("oil", "tea"))
        self.assert_bool(do_agree(hall, one, same), True)
        self.assertIsNone(parting(hall, one, same))

    def test_told_partings_are_new(self):
        for fact in FACTS:
            self.assert_all_new(lambda: parting(TOWN, ("tell", fact), ("close", 2)))
        self.assertEqual([len(TOWN), TOWN.closed, len(MANY), ONE[0]], [0, 0, 208, "a"])


if __name__ == "__main__":
    unittest.main()
