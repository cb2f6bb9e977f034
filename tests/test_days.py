"""[71] to [75] and lateledger/days.py."""

import unittest
from itertools import permutations
from random import Random

from lateledger.days import Run
from lateledger.errors import InvalidGoods, InvalidHouses, TooMany
from lateledger.facts import is_fact
from lateledger.faults import InvalidDay, InvalidDays, InvalidFact, InvalidFacts, InvalidWord, KnownId, UnknownId
from lateledger.ratios import Ratio
from tests.late import GOODS, HOUSES, WORDS, counting_by_rule, ratio, some_busy_facts, some_fact, some_facts, some_market
from tests.late import held, steps_by_sums, told
from tests.support import GREAT, Checks, all_numbers, fraction, looks_like, strange_values, values_of_every_kind

ONE = ("a", 1, "transfer", "ann", "oil", 3)
MANY = [chr(97 + at // 26) + chr(97 + at % 26) for at in range(26 * 8)]
NINE = ["ann", "ben", "cy", "dot", "eve", "fay", "gil", "hob", "ida"]


def run_of(facts=(), houses=("ann", "ben"), goods=("oil",), days=2):
    return Run(houses, goods, days, facts)


def orders(many, day=1, skip=0):
    return [(key, day, "order", "ann", {"oil": -1}, 0, 1) for key in MANY[skip:skip + many]]


def pairs_of(names, word, many, skip=0):
    pairs = [(one, other) for one in names for other in names if one != other][skip:skip + many]
    parts = (1, 0) if word == "line" else (1,)
    return [(key, 1, word, *pair, *parts) for key, pair in zip(MANY[skip:], pairs)]


class RunTest(Checks, unittest.TestCase):
    def test_what_it_tells(self):
        bundle = {"oil": 2, "corn": 0}
        facts = [("b", 2, "order", "ben", bundle, 5, 2), ONE, ("s", "strike", "a")]
        run = Run(("ben", "ann"), ["oil", "corn"], 2, facts)
        self.assert_same([run.days, run.houses(), run.goods(), len(run)], [2, ["ann", "ben"], ["corn", "oil"], 3])
        kept = ("b", 2, "order", "ben", {"oil": 2}, 5, 2)
        self.assert_same(run.facts(), [ONE, kept, ("s", "strike", "a")])
        self.assert_same(run.counting(), [kept])
        self.assert_same([run.fact("a"), run.fact(key="b")], [ONE, kept])
        self.assert_same(["a" in run, "s" in run, "c" in run], [True, True, False])
        self.assertEqual(repr(run), "Run(['ann', 'ben'], ['corn', 'oil'], 2, [('a', 1, 'transfer', 'ann', 'oil', 3), "
                                    "('b', 2, 'order', 'ben', {'oil': 2}, 5, 2), ('s', 'strike', 'a')])")
        self.assertEqual(repr(Run(["ben", "ann"], ["oil"], days=2)), "Run(['ann', 'ben'], ['oil'], 2, [])")
        bundle.clear()
        run.fact("b")[4].clear()
        run.facts()[1][4].clear()
        run.counting()[0][4].clear()
        run.reads(2, "round")[0]["b"][1].clear()
        self.assert_same(run.facts(), [ONE, kept, ("s", "strike", "a")])
        self.assert_same(run.reads(2, "round"), ({"b": ("ben", {"oil": 2}, 5, 2)},))

    def test_wrong_houses(self):
        for value in values_of_every_kind() + [(), [], {}, "ann", {"ann": 1}]:
            if not isinstance(value, (list, tuple)) or len(value) == 0:
                self.assert_raises(InvalidHouses, {"position": None}, Run, value, None, None, None)
            if not looks_like(value, "a", "tea", "abcdefgh", "equals"):
                self.assert_raises(InvalidHouses, {"position": 1}, Run, ["ann", value, "ann"], None, None, None)
        for wrong in ("coin", "hall", "outside", "ann", "Ben", "abcdefghi", ""):
            self.assert_raises(InvalidHouses, {"position": 2}, Run, ("ben", "ann", wrong, None), ["oil"], 2)

    def test_wrong_goods(self):
        for value in values_of_every_kind() + [(), [], {}, "oil"]:
            if not isinstance(value, (list, tuple)) or len(value) == 0:
                self.assert_raises(InvalidGoods, {"position": None}, Run, ["ann"], value, None, None)
            if not looks_like(value, "a", "tea", "abcdefgh", "equals"):
                self.assert_raises(InvalidGoods, {"position": 1}, Run, ["ann"], ["oil", value, "oil"], None, None)
        for wrong in ("coin", "hall", "outside", "ann", "oil", "Oil", "abcdefghi"):
            self.assert_raises(InvalidGoods, {"position": 1}, Run, ("ben", "ann"), ("oil", wrong), 2)

    def test_wrong_days(self):
        for value in values_of_every_kind() + [-7]:
            if not isinstance(value, int) or isinstance(value, bool) or value < 1:
                self.assert_keeps(InvalidDays, value, Run, ["ann"], ["oil"], value, None)

    def test_wrong_facts(self):
        for value in values_of_every_kind():
            if not isinstance(value, (list, tuple)):
                self.assert_raises(InvalidFacts, {"position": None}, run_of, value)
            self.assert_raises(InvalidFacts, {"position": 1}, run_of, [ONE, value, ONE])
        self.assert_raises(InvalidFacts, {"position": 0}, run_of, [("a", 3, "transfer", "ann", "oil", 3)])
        self.assert_raises(InvalidFacts, {"position": 1}, run_of, (ONE, list(ONE)), days=13)
        # Known ids come behind values that are no facts, and the first unlike fact counts.
        other = ("a", 1, "transfer", "ann", "oil", 4)
        self.assert_raises(InvalidFacts, {"position": 2}, run_of, [ONE, other, None])
        self.assert_raises(KnownId, {"value": "b"}, run_of, [ONE, ("b", "strike", "x"), ONE, ("b", "strike", "y"), other])
        self.assert_same(run_of([ONE, ONE, ONE]).facts(), [ONE])

    def test_too_many(self):
        nine, five = NINE, ["oil", "tea", "rye", "corn", "wax"]
        facts = [ONE, ("a", "strike", "b")]
        self.assert_raises(KnownId, {"value": "a"}, Run, nine, five, 13, facts)
        self.assert_raises(TooMany, {"what": "houses", "allowed": 8}, Run, nine, five, 13, [ONE])
        self.assert_raises(TooMany, {"what": "goods", "allowed": 4}, Run, nine[:8], five, GREAT, [ONE])
        self.assert_raises(TooMany, {"what": "days", "allowed": 12}, Run, nine[:8], five[:4], 13, orders(101))
        self.assert_raises(TooMany, {"what": "facts", "allowed": 100}, Run, nine[:8], five[:4], 12, orders(101))
        self.assertEqual(Run(nine[:8], five[:4], 12).days, 12)
        full = [(key, "strike", "zz") for key in MANY[:100]]
        self.assertEqual(len(run_of(full + full)), 100)
        self.assert_raises(TooMany, {"what": "facts", "allowed": 100}, run_of(full).with_fact, ONE)
        self.assertEqual(run_of(full).with_fact(full[0])[1], [])
        self.assert_raises(KnownId, {"value": "aa"}, run_of(full).with_fact, ("aa", "strike", "b"))

    def test_too_many_facts_of_one_day(self):
        source = {"order": ("ann", {"oil": -1}, 0, 1), "future": ("dry", {"oil": 1}), "quote": ({"oil": 1}, 1, 1)}
        for word, most in (("order", 12), ("future", 8), ("quote", 8)):
            facts = [(key, day, word, *source[word]) for day in (1, 2) for key in MANY[day * 20:day * 20 + most]]
            run = run_of(facts)
            more = ("zz", 2, word, *source[word])
            for call in (lambda: run.with_fact(more), lambda: run_of(facts + [more]), lambda: run_of([more] + facts)):
                self.assert_raises(TooMany, {"what": word + "s", "allowed": most}, call)
            # What is struck does not count, from whichever side it comes.
            struck = run.with_fact(("s", "strike", facts[-1][0]))[0]
            self.assertEqual(len(struck.with_fact(more)[0].counting()), 2 * most)
            self.assertEqual(len(run.with_fact(("s", "strike", "zz"))[0].with_fact(more)[0].counting()), 2 * most)
            self.assertEqual(len(run_of([*facts, more, ("s", "strike", "zz")]).counting()), 2 * most)

    def test_too_many_lines_and_moves_of_all_days(self):
        lines = pairs_of(NINE[:8], "line", 24)
        run = run_of(lines, NINE[:8])
        more = ("zz", 2, "line", "hob", "ann", 1, 0)
        for call in (lambda: run.with_fact(more), lambda: run_of(lines + [more], NINE[:8])):
            self.assert_raises(TooMany, {"what": "lines", "allowed": 24}, call)
        same = ("zz", 2, "line", "ann", "ben", 7, 0)
        self.assertEqual(run.with_fact(same)[0].reads(2, "clear")[1][0], ("ann", "ben", 7, 0))
        self.assertEqual(len(run.with_fact(("s", "strike", lines[3][0]))[0].with_fact(more)[0]), 26)
        goods = ["corn", "oil", "tea", "wax"]
        moves = pairs_of([None, *goods], "move", 20)
        again = [(key, 2, *fact[2:]) for key, fact in zip(MANY[40:], moves)]
        self.assertEqual(len(run_of(moves + again, goods=goods).reads(2, "cover")[1]), 20)

    def test_too_many_in_their_sequence(self):
        houses = NINE[:8]
        futures = [(key, 1, "future", "dry", {"oil": 1}) for key in MANY[20:29]]
        quotes = [(key, 1, "quote", {"oil": 1}, 1, 1) for key in MANY[30:39]]
        lines = pairs_of(houses, "line", 25, 0)
        lines = [(key, *fact[1:]) for key, fact in zip(MANY[40:], lines)]
        found = [orders(13), futures, quotes, lines]
        for at, (what, allowed) in enumerate([("orders", 12), ("futures", 8), ("quotes", 8), ("lines", 24)]):
            facts = [fact for part in reversed(found[at:]) for fact in part]
            self.assert_raises(TooMany, {"what": what, "allowed": allowed}, run_of, facts, houses)

    def test_facts_that_come(self):
        source = Random(731)
        for _ in range(40):
            houses, goods, days = some_market(source)
            facts = some_busy_facts(source, houses, goods, days, 5) if source.random() < 0.5 else some_facts(source, houses, goods, days)
            run, known = Run(houses, goods, days), []
            for fact in facts:
                ahead = steps_by_sums(houses, goods, days, known)
                known.append(fact)
                now = steps_by_sums(houses, goods, days, known)
                more, done = run.with_fact(fact=fact)
                wanted = [(day, word) for day, word in now if now[day, word][0] != ahead[day, word][0]]
                self.assert_same(done, wanted)
                self.assertEqual(more, Run(houses, goods, days, known))
                self.assertEqual(len(run), len(known) - 1)
                self.check_run(more, known)
                self.assert_same(more.with_fact(fact), (more, []))
                run = more

    def check_run(self, run, facts):
        """That all that the run tells is told by the sums of [72] to [74]."""
        houses, goods, days = run.houses(), run.goods(), run.days
        self.assert_same(run.facts(), sorted([told(fact) for fact in facts], key=lambda fact: fact[0]))
        self.assert_same(run.counting(), counting_by_rule(facts))
        steps = steps_by_sums(houses, goods, days, facts)
        for day in range(1, days + 1):
            for word in WORDS:
                self.assert_same(run.reads(day, word), steps[day, word][0])
                self.assert_same(run.makes(day=day, word=word), steps[day, word][1])
            balances = steps[day, "call"][1]
            self.assert_same(run.balances(day), balances)
            self.assert_same(run.entries(day), [entry for word in WORDS for entry in steps[day, word][2]])
            self.assert_same(run.owed(day), {house: ratio(-held(balances, house + ".owed")) for house in houses})

    def test_any_sequence(self):
        source = Random(732)
        for _ in range(12):
            houses, goods, days = some_market(source)
            facts = some_facts(source, houses, goods, days, 5)[:4]
            wanted = Run(houses, goods, days, facts)
            for some in permutations(facts):
                run = Run(houses[::-1], goods[::-1], days)
                for fact in some:
                    run = run.with_fact(fact)[0]
                self.assertTrue(run == wanted and not run != wanted)
                self.assertEqual(repr(run), repr(wanted))
                for day in range(1, days + 1):
                    for word in WORDS:
                        self.assert_same([run.reads(day, word), run.makes(day, word)], [wanted.reads(day, word), wanted.makes(day, word)])

    def test_balances_come_to_nought(self):
        source = Random(733)
        for _ in range(60):
            houses, goods, days = some_market(source)
            run = Run(houses, goods, days, some_busy_facts(source, houses, goods, days))
            for day in range(1, days + 1):
                balances = run.balances(day)
                for unit in [*goods, "coin"]:
                    self.assertEqual(sum(fraction(number) for place, number in balances.items() if place[1] == unit), 0)
                self.assertEqual(sum(fraction(number) for number in run.owed(day).values()), 0)
                behind = run.makes(day, "trades")
                self.assertNotIn("hall", [account for account, _ in behind])
                self.assertEqual(list(balances), sorted(balances))
                for number in all_numbers(list(balances.values())):
                    self.assertIsInstance(number, Ratio)
                    self.assertNotEqual(number, Ratio(0))

    def test_late_facts_reach_no_more_than_they_must(self):
        facts = [("t", 1, "transfer", "ann", "oil", 5), ("o", 2, "order", "ann", {"oil": -2}, -3, 1),
                 ("p", 2, "order", "ben", {"oil": 2}, 8, 1), ("f", 2, "future", "dry", {"oil": 2}),
                 ("q", 2, "quote", {"oil": 1}, 1, 2), ("m", 1, "move", None, "oil", 2)]
        run = Run(["ann", "ben"], ["oil"], 3, facts)

        def done(*parts):
            return run.with_fact(parts)[1]

        # Ben owes 6 coins from day 2 on: the line is read by each clearing, and what it pays changes all behind it.
        self.assertEqual(done("x", 1, "line", "ben", "ann", 4, 0), [(1, "clear"), (1, "pay")] + [(2, "clear"), (2, "pay"), (2, "call")]
                         + [(3, word) for word in ("in", "trades", "clear", "pay", "call")])
        self.assertEqual(done("x", 3, "line", "ben", "ann", 0, 5), [(3, "clear"), (3, "pay")])
        self.assertEqual(done("x", 2, "future", "wet", {"oil": 1}), [(2, "fair")])
        self.assertEqual(done("x", 3, "quote", {"oil": 1}, 1, None), [(3, "fair")])
        self.assertEqual(done("x", 1, "move", "oil", None, 1), [(1, "cover"), (2, "cover"), (3, "cover")])
        self.assertEqual(done("x", 3, "order", "ann", {"oil": 1}, 0, 1), [(3, "round"), (3, "trades")])
        self.assertEqual(done("x", 2, "transfer", "ben", "coin", 1), [(day, word) for day in (2, 3)
                                                                      for word in ("in", "trades", "pay", "call")])
        # Strikings of what is not there, of strikings, and facts that others outdo: nothing reads them.
        self.assertEqual(done("x", "strike", "z"), [])
        self.assertEqual(done("a", 1, "move", None, "oil", 9), [])
        self.assertEqual(done("x", 2, "future", "dry", {"oil": 2, }), [])
        self.assertEqual(done("x", "strike", "q"), [(2, "fair")])
        self.assertEqual(done("x", "strike", "t")[:3], [(1, "in"), (1, "trades"), (1, "pay")])

    def test_an_equal_fact_is_idle_and_another_one_is_refused(self):
        run = run_of([("b", 2, "order", "ben", {"oil": 1}, 5, 2)], goods=["oil", "tea"])
        same, done = run.with_fact(("b", 2, "order", "ben", {"tea": 0, "oil": 1}, 5, 2))
        self.assert_same([same == run, done, len(same)], [True, [], 1])
        key = "".join(["b"])
        for other in ((key, 2, "order", "ben", {"oil": 1}, 5, 3), (key, "strike", "a"), (key, 1, "order", "ben", {"oil": 1}, 5, 2),
                      (key, 2, "order", "ben", {"oil": 1, "tea": 1}, 5, 2)):
            self.assert_keeps(KnownId, key, run.with_fact, other)
            self.assertEqual(run.facts(), [("b", 2, "order", "ben", {"oil": 1}, 5, 2)])

    def test_wrong_parameters(self):
        run = run_of([ONE])
        for value in values_of_every_kind() + strange_values("a", *WORDS) + [3, GREAT, "b"]:
            if not (value.__class__ is int and value == 1):
                for call in (run.reads, run.makes):
                    self.assert_keeps(InvalidDay, value, call, value, None)
                for call in (run.balances, run.entries, run.owed):
                    self.assert_keeps(InvalidDay, value, call, day=value)
            for call in (run.reads, run.makes):
                self.assert_keeps(InvalidWord, value, call, 2, value)
            self.assert_keeps(InvalidFact, value, run.with_fact, value)
            self.assert_bool(value in run, looks_like(value, "a"))
            if not looks_like(value, "a"):
                self.assert_keeps(UnknownId, value, run.fact, value)
        for wrong in (list(ONE), ONE[:-1], (*ONE, 1), ("a", 3, "transfer", "ann", "oil", 3), ("a", 1, "transfer", "cy", "oil", 3)):
            self.assert_keeps(InvalidFact, wrong, run.with_fact, fact=wrong)

    def test_numbers_that_are_ratios(self):
        facts = [("a", 1, "order", "ann", {"oil": -3}, -1, 5), ("b", 1, "order", "ben", {"oil": 7}, 29, 1),
                 ("l", 1, "line", "ben", "ann", 3, 1), ("m", 1, "move", "oil", None, 2), ("n", 1, "move", None, "oil", 1)]
        run = run_of(facts)
        self.assert_same(run.makes(1, "round"), ({"a": Ratio(7, 3), "b": Ratio(1)}, {"oil": Ratio(1, 3)}))
        self.assert_same(run.owed(1), {"ann": Ratio(0), "ben": Ratio(0)})
        self.assert_same(run.makes(1, "clear"), {("ben", "ann"): Ratio(7, 3)})
        self.assert_same(run.makes(1, "cover"), {"ann": Ratio(14), "ben": Ratio(7)})
        self.assert_same(run.entries(1)[-1], [("ben.coin", "coin", Ratio(-7)), ("ben.cover", "coin", Ratio(7))])
        great = run_of([("a", 1, "order", "ann", {"oil": -GREAT}, -GREAT, GREAT), ("b", 2, "order", "ben", {"oil": GREAT - 1}, GREAT, GREAT),
                        ("c", 2, "order", "ann", {"oil": -GREAT}, 7 - GREAT, GREAT)])
        self.check_run(great, great.facts())

    def test_equal(self):
        run = run_of([ONE])
        for other in (run_of(), run_of([ONE], ("ann", "cy")), run_of([ONE], goods=("oil", "tea")), run_of([ONE], days=3),
                      run_of([("a", 1, "transfer", "ann", "oil", 4)]), run_of([ONE, ("s", "strike", "a")])):
            self.assert_bool(run == other, False)
            self.assert_bool(run != other, True)
        self.assert_bool(run == run_of((ONE, ONE), ["ben", "ann"], ["oil"]), True)
        for value in values_of_every_kind():
            self.assert_bool(run == value, False)

    def test_what_is_told_is_new(self):
        source = Random(734)
        houses, goods, days = HOUSES, GOODS, 3
        run = Run(houses, goods, days, some_busy_facts(source, houses, goods, days))
        self.assert_all_new(lambda: [run.facts(), run.counting(), run.houses(), run.goods(), [run.fact(fact[0]) for fact in run.facts()]])
        for day in (1, 2, 3):
            for word in WORDS:
                self.assert_all_new(lambda: [run.reads(day, word), run.makes(day, word)])
            self.assert_all_new(lambda: [run.balances(day), run.entries(day), run.owed(day)])
        kept = repr(run), run.balances(3)
        houses = ["ann", "ben"]
        other = Run(houses, goods, days)
        houses.append("cy")
        other.houses().append("cy")
        other.goods().clear()
        run.balances(3).clear()
        run.reads(3, "in")[0].clear()
        run.makes(3, "round")[0].clear()
        self.assertEqual([repr(run), run.balances(3)], list(kept))
        self.assertEqual([other.houses(), other.goods()], [["ann", "ben"], sorted(GOODS)])
        self.assertTrue(all(is_fact(fact, HOUSES, GOODS, days) for fact in run.facts()))
        self.assertTrue(is_fact(some_fact(source, HOUSES, GOODS, 2, "a"), HOUSES, GOODS, 2))


if __name__ == "__main__":
    unittest.main()
