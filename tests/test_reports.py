"""[23] to [25], TOLD OR APART of [4], and the part "lateledger/reports.py"."""

import unittest
from itertools import combinations
from random import Random

from lateledger.accounts import Chart
from lateledger.errors import DoNotStand, InvalidChart, InvalidJournal, InvalidNumbers, InvalidPrices, InvalidReport
from lateledger.errors import InvalidReports, NotTold, TooMany
from lateledger.journals import Journal
from lateledger.ratios import Ratio
from lateledger.reports import are_like, are_weights, cheapest_set, difference, is_difference, is_kept_set, is_set_paper
from lateledger.reports import is_told, least_sets, own_weights, set_paper, told_value, value, weights
from lateledger.wholes import journal_with
from tests.books import above, differs, like_nothing, own_weight, plus, some_chart, some_report, some_reports, small_ratio
from tests.books import value_by_sums, weighs
from tests.support import GREAT, Checks, digits, fraction, values_of_every_kind

HALF = Ratio(1, 2)
CHART = Chart(["a", "a.b", "ab", "b"], ["coin", "oil"])
KEPT = {"x": {("a", "coin"): 1}, "y": {("b", "coin"): 2}}
REST = {("ab", "coin"): 1}
OIL = {("ab", "oil"): 1}
BOOKS = Journal(CHART, [[("a.b", "coin", 5), ("b", "coin", -5)], [("b", "coin", 2), ("ab", "coin", -2)]])
WRONG_REPORTS = [
    None, [], (), "report", [(("a", "coin"), 1)], {"a": 1}, {("a",): 1}, {("a", "coin", 1): 1}, {("c", "coin"): 1},
    {("a", "tea"): 1}, {("coin", "a"): 1}, {("a", "coin"): True}, {("a", "coin"): Ratio(1)}, {("a", "coin"): None},
    {("a", "coin"): "1"}, {("a", "coin"): 1, ("A", "coin"): 1}, {("a", 1): 1}, {(None, "coin"): 1}, {("a", "coin"): [1]},
    {("a", "coin"): 1, "a": 1}, {1: 1}, {None: 1},
]
SOME_NAMES = ["a", "b", "c", "d", "e", "f", "g", "h", "i", "j", "k", "l", "m", "n"]


def many_reports(many):
    return {name: {("a", "coin"): 1} for name in SOME_NAMES[:many]}


def no_reports():
    """What is no dict from NAMES to reports of CHART."""
    fits = ({}, {("a", "coin"): 1})
    return [one for one in values_of_every_kind() if one.__class__ is not dict or one not in fits[:1]] + [
        {"X": {}}, {"": {}}, {1: {}}, {"abcdefghi": {}}, {None: {}}, {"x": {}, ("y",): {}}] + [
        {"x": {}, "y": report} for report in WRONG_REPORTS]


class ValuesTest(Checks, unittest.TestCase):
    def test_values(self):
        for report, wanted in ((KEPT["x"], 5), (KEPT["y"], -6), (REST, -2), (OIL, 0), ({}, 0), ({("a.b", "coin"): 3}, 15),
                               ({("a", "coin"): 1, ("a.b", "coin"): 1}, 10), ({("a", "coin"): 0}, 0)):
            self.assert_same(value(BOOKS, report), Ratio(wanted))
        self.assert_same(value(report=REST, journal=BOOKS), Ratio(-2))
        self.assert_same(value(Journal(CHART), REST), Ratio(0))

    def test_values_by_own_weights(self):
        source = Random(51)
        for _ in range(100):
            chart = some_chart(source)
            report = some_report(source, chart)
            entries = []
            for _ in range(source.randint(0, 4)):
                unit = source.choice(chart.units())
                if len(chart) > 1:
                    one, other = source.sample(chart.accounts(), 2)
                    amount = small_ratio(source) + source.choice([5, -5])
                    entries.append([(one, unit, amount), (other, unit, -amount)])
            self.assertEqual(fraction(value(Journal(chart, entries), report)), value_by_sums(entries, report))
            told = own_weights(chart, report)
            self.assert_same(told, {place: told[place] for place in sorted(told)})
            wanted = {(account, unit): own_weight(report, account, unit) for account in chart.accounts() for unit in chart.units()}
            self.assert_same(told, {place: wanted[place] for place in sorted(wanted) if wanted[place] != 0})

    def test_own_weights(self):
        report = {("b", "oil"): -2, ("a", "coin"): 1, ("a.b", "coin"): -1, ("ab", "coin"): 4, ("a", "oil"): 0}
        self.assert_same(own_weights(CHART, report), {("a", "coin"): 1, ("ab", "coin"): 4, ("b", "oil"): -2})
        self.assert_same(own_weights(report={("a", "oil"): GREAT}, chart=CHART), {("a", "oil"): GREAT, ("a.b", "oil"): GREAT})
        self.assert_same(own_weights(CHART, {}), {})

    def test_are_like(self):
        base = {("a", "coin"): 1, ("ab", "coin"): 1, ("b", "coin"): 1}
        for one, other, wanted in ((REST, {("a", "coin"): -1, ("b", "coin"): -1}, True), (base, {}, True), ({}, {}, True),
                                   (REST, OIL, False), (REST, {}, False), (base, {("a", "coin"): 1}, False),
                                   ({("a", "coin"): 0}, {}, True), (REST, {("ab", "coin"): 2}, False),
                                   ({**base, ("a.b", "coin"): 1}, {}, False), ({**base, ("b", "oil"): 2}, {}, False),
                                   (base, {("a", "oil"): 2, ("ab", "oil"): 2, ("b", "oil"): 2}, True)):
            self.assert_bool(are_like(CHART, one, other), wanted)
            self.assert_bool(are_like(CHART, other, one), wanted)
        self.assert_bool(are_like(other=REST, report=REST, chart=CHART), True)

    def test_are_like_by_sums(self):
        source = Random(52)
        for _ in range(100):
            chart = some_chart(source)
            one = some_report(source, chart, 1)
            other = source.choice([plus(one, 1, like_nothing(source, chart), 1), some_report(source, chart, 1)])
            self.assert_bool(are_like(chart, one, other), weighs(chart, {"x": other}, one, {"x": 1}))


class ToldOrApartTest(Checks, unittest.TestCase):
    def check(self, chart, kept, report):
        """That just one of weights and a difference is told, and that it is one."""
        found, apart = weights(chart, kept, report), difference(chart, kept, report)
        self.assert_bool(is_told(chart, kept, report), found is not None)
        self.assertEqual(found is None, apart is not None)
        if apart is None:
            self.assertIs(found.__class__, dict)
            self.assertEqual(list(found), [name for name in sorted(kept) if name in found])
            self.assert_told_short(found)
            self.assertTrue(weighs(chart, kept, report, found))
            self.assert_bool(are_weights(chart, kept, report, found), True)
        else:
            self.assertIs(apart.__class__, list)
            self.assertEqual(apart, sorted(apart))
            self.assertTrue(all(line.__class__ is tuple for line in apart))
            self.assertTrue(all(len(str(abs(line[2]))) <= 500 for line in apart))
            self.assertTrue(differs(kept, report, apart))
            self.assert_bool(is_difference(chart, kept, report, apart), True)
        return apart is None

    def test_many_reports(self):
        source, found = Random(61), [0, 0]
        for _ in range(300):
            chart = some_chart(source)
            kept = some_reports(source, chart)
            report = some_report(source, chart)
            if kept and source.random() < 0.5:
                report = plus(kept[source.choice(sorted(kept))], source.randint(-3, 3), kept[min(kept)], 2)
                report = plus(report, 1, like_nothing(source, chart), 1)
            found[self.check(chart, kept, report)] += 1
        self.assertGreater(min(found), 80)

    def test_known_reports(self):
        self.assertTrue(self.check(CHART, KEPT, REST))
        self.assert_same(weights(CHART, KEPT, REST), {"x": Ratio(-1), "y": Ratio(-1, 2)})
        self.assertFalse(self.check(CHART, KEPT, OIL))
        self.assertFalse(self.check(CHART, {"y": KEPT["y"]}, REST))
        self.assertFalse(self.check(CHART, {}, REST))

    def test_reports_like_the_empty_one(self):
        nothing = {("a", "oil"): 3, ("ab", "oil"): 3, ("b", "oil"): 3}
        for report in ({}, nothing, {("a", "coin"): 0}):
            for kept in ({}, KEPT, {"z": nothing}, {"z": {}}):
                self.assertTrue(self.check(CHART, kept, report))
                self.assert_bool(are_weights(CHART, kept, report, {}), True)
            self.assert_same(weights(CHART, {}, report), {})
        self.assertFalse(self.check(CHART, {"z": nothing, "y": {}}, OIL))
        alone = Chart(["a"], ["coin"])
        self.assertTrue(self.check(alone, {}, {("a", "coin"): 5}))

    def test_great_numbers(self):
        source = Random(62)
        accounts = [one + other for one in "abcdef" for other in "abcdefghij"]
        chart = Chart(accounts, ["coin", "oil", "tea", "rye", "wax", "tin", "salt", "wood"])
        kept = {}
        for name in SOME_NAMES[:12]:
            places = [(source.choice(accounts), source.choice(chart.units())) for _ in range(390)]
            kept[name] = {place: source.randint(-GREAT, GREAT) for place in places}
        report = {place: source.randint(-GREAT, GREAT) for place in places}
        self.assertFalse(self.check(chart, kept, report))
        small = Chart(accounts[:13], ["coin"])
        kept = {name: {(account, "coin"): source.randint(-GREAT, GREAT) for account in small.accounts()} for name in SOME_NAMES[:12]}
        report = {(account, "coin"): source.randint(-GREAT, GREAT) for account in small.accounts()}
        self.assertTrue(self.check(small, kept, report))
        self.assertGreater(max(digits(number) for number in weights(small, kept, report).values()), 300)
        self.assertFalse(self.check(small, {name: kept[name] for name in SOME_NAMES[:11]}, report))

    def test_judges_of_weights(self):
        for told in ({"x": -1, "y": -HALF}, {"y": Ratio(-1, 2), "x": Ratio(-1)}):
            self.assert_bool(are_weights(CHART, KEPT, REST, told), True)
        self.assert_bool(are_weights(CHART, {**KEPT, "z": OIL}, REST, {"x": -1, "y": -HALF}), True)
        self.assert_bool(are_weights(CHART, {**KEPT, "z": OIL}, REST, {"x": -1, "y": -HALF, "z": 0}), True)
        self.assert_bool(are_weights(CHART, KEPT, {("b", "coin"): -1}, {"y": -HALF}), True)
        for told in ({"x": -1}, {"y": -HALF}, {"x": -1, "y": HALF}, {"x": -1, "y": -HALF, "z": 0}, {"x": -1, "y": "1"},
                     {"x": -1, "y": None}, {"x": True, "y": -HALF}, {"x": [-1], "y": -HALF}, [("x", -1), ("y", -HALF)],
                     [-1, -HALF], {"x": -1, "y": -HALF, 1: 0}, {"x": -1, "y": -HALF, None: 0}):
            self.assert_bool(are_weights(CHART, KEPT, REST, told), False)
        for told in values_of_every_kind():
            self.assert_bool(are_weights(CHART, KEPT, REST, told), False)
            self.assert_bool(is_difference(CHART, KEPT, OIL, told), False)
            self.assert_bool(is_kept_set(CHART, KEPT, told), False)
            self.assert_bool(is_set_paper(CHART, KEPT, {"x": 0, "y": 0}, told), False)

    def test_judges_of_differences(self):
        kept = {"x": KEPT["x"], "z": OIL}
        for entry in ([("ab", "coin", 1), ("b", "coin", -1)], (("b", "coin", 7), ("ab", "coin", -7)),
                      [("b", "coin", -1), ("ab", "coin", 1), ("b", "oil", 1), ("a", "oil", -1)],
                      [("ab", "coin", 2), ("b", "coin", -2), ("a", "coin", -1), ("a.b", "coin", 1)]):
            self.assertTrue(differs(kept, REST, entry))
            self.assert_bool(is_difference(CHART, kept, REST, entry), True)
        for entry in ([("ab", "coin", Ratio(1)), ("b", "coin", Ratio(-1))], [("ab", "coin", 1), ("b", "coin", Ratio(-1))],
                      [("ab", "coin", 1), ("a", "coin", -1)], [("ab", "coin", 1)], [("ab", "coin", 1), ("b", "coin", -2)],
                      [("a", "coin", 1), ("a.b", "coin", -1)], [("b", "oil", 1), ("a", "oil", -1)], [],
                      [("ab", "coin", 1), ("b", "coin", -1), ("ab", "oil", 1), ("b", "oil", -1)], {},
                      [["ab", "coin", 1], ["b", "coin", -1]], [("ab", "coin", 1), ("b", "coin", -1), ("a", "coin", 0)],
                      [("ab", "coin", True), ("b", "coin", -1)], [("ab", "coin", HALF), ("b", "coin", -HALF)]):
            self.assert_bool(is_difference(CHART, kept, REST, entry), False)
        self.assert_bool(is_difference(CHART, {}, REST, [("ab", "coin", 1), ("a", "coin", -1)]), True)
        for one, other in ((Ratio(1), Ratio(-1)), (1, Ratio(-1)), (Ratio(1), -1), (HALF, -HALF)):
            self.assert_bool(is_difference(CHART, {}, REST, [("ab", "coin", one), ("a", "coin", other)]), False)

    def test_judges_like_the_sums(self):
        source = Random(63)
        for _ in range(200):
            chart = some_chart(source)
            kept, report = some_reports(source, chart, 3, 1), some_report(source, chart, 1)
            numbers = {name: source.choice([0, 1, -1, HALF, 2]) for name in kept if source.random() < 0.8}
            if source.random() < 0.5:
                report = {}
                for name, number in numbers.items():
                    report = plus(report, 1, kept[name], number if number.__class__ is int else 0)
            self.assert_bool(are_weights(chart, kept, report, numbers), weighs(chart, kept, report, numbers))
            entry = [(account, unit, source.choice([1, -1, 2])) for account in chart.accounts()[:3] for unit in chart.units()]
            self.assert_bool(is_difference(chart, kept, report, entry), differs(kept, report, entry))


class ToldValueTest(Checks, unittest.TestCase):
    def test_values(self):
        self.assert_same(told_value(CHART, KEPT, REST, {"x": 3, "y": 4}), Ratio(-5))
        self.assert_same(told_value(CHART, KEPT, REST, {"y": HALF, "x": Ratio(1, 3)}), Ratio(-7, 12))
        self.assert_same(told_value(numbers={"x": 0, "y": 0}, report=REST, kept=KEPT, chart=CHART), Ratio(0))
        self.assert_same(told_value(CHART, {}, {}, {}), Ratio(0))

    def test_values_are_those_of_journals(self):
        source, found = Random(64), 0
        for _ in range(150):
            chart = some_chart(source)
            kept = some_reports(source, chart, 4)
            report = {}
            for name in kept:
                report = plus(report, 1, kept[name], source.randint(-2, 2))
            numbers = {name: small_ratio(source) for name in kept}
            journal = journal_with(chart, kept, numbers)
            if journal is None:
                self.assert_raises(DoNotStand, {}, told_value, chart, kept, report, numbers)
            else:
                found += 1
                self.assert_same(told_value(chart, kept, report, numbers), value(journal, report))
        self.assertGreater(found, 30)

    def test_errors_in_their_sequence(self):
        off = {"x": KEPT["x"], "y": KEPT["x"]}
        self.assert_raises(NotTold, {}, told_value, CHART, off, REST, {"x": 1, "y": 2})
        self.assert_raises(DoNotStand, {}, told_value, CHART, off, KEPT["x"], {"x": 1, "y": 2})
        self.assert_same(told_value(CHART, off, KEPT["x"], {"x": 2, "y": 2}), Ratio(2))
        thirteen = many_reports(13)
        same = {name: 1 for name in thirteen}
        unlike = {**same, "m": 2}
        self.assert_raises(NotTold, {}, told_value, CHART, thirteen, REST, unlike)
        self.assert_raises(DoNotStand, {}, told_value, CHART, thirteen, {("a", "coin"): 2}, unlike)
        self.assert_raises(TooMany, {"what": "reports", "allowed": 12}, told_value, CHART, thirteen, {("a", "coin"): 2}, same)
        twelve = many_reports(12)
        self.assert_same(told_value(CHART, twelve, {("a", "coin"): 2}, {name: 3 for name in twelve}), Ratio(6))

    def test_wrong_numbers(self):
        wrong = [{"x": 1}, {"x": 1, "y": 1, "z": 1}, {"x": 1, "z": 1}, {"x": 1, "y": True}, {"x": None, "y": 1}, {},
                 {"x": "1", "y": 1}, {"x": 1, "y": [1]}, [("x", 1), ("y", 1)], [1, 1], {"x": 1, 2: 1}, {"x": 1, None: 1}]
        for numbers in wrong + values_of_every_kind():
            self.assert_keeps(InvalidNumbers, numbers, told_value, CHART, KEPT, OIL, numbers)
            self.assert_keeps(InvalidNumbers, numbers, told_value, CHART, {**many_reports(13), "zz": {}}, REST, numbers)


class KeptSetsTest(Checks, unittest.TestCase):
    def is_kept(self, chart, offered, names):
        kept = {name: offered[name] for name in names}
        return all(weights(chart, kept, offered[name]) is not None for name in offered)

    def all_least(self, chart, offered):
        """All least sets, by trying all sets."""
        names = sorted(offered)
        kept = [list(some) for many in range(len(names) + 1) for some in combinations(names, many)
                if self.is_kept(chart, offered, some)]
        return sorted(one for one in kept if not any(set(other) < set(one) for other in kept))

    def test_small_offers(self):
        source = Random(71)
        for _ in range(60):
            chart = some_chart(source)
            offered = some_reports(source, chart, 5, 2)
            least = self.all_least(chart, offered)
            self.assert_same(least_sets(chart, offered), least)
            self.assertEqual(len({len(names) for names in least}), 1)
            prices = {name: source.randint(0, 2) for name in offered}
            self.check_cheapest(chart, offered, prices, least)
            for many in range(len(offered) + 1):
                for some in combinations(sorted(offered), many):
                    wanted = any(set(one) <= set(some) for one in least)
                    self.assert_bool(is_kept_set(chart, offered, list(some)), wanted)

    def check_cheapest(self, chart, offered, prices, least):
        told = cheapest_set(chart, offered, prices)
        sequence = sorted(offered, key=lambda name: (prices[name], name))
        wanted = []
        for at, name in enumerate(sequence):
            if not is_told(chart, {one: offered[one] for one in sequence[:at]}, offered[name]):
                wanted.append(name)
        self.assert_same(told, sorted(wanted))
        self.assertIn(told, least)
        self.assertEqual(sum(prices[name] for name in told),
                         min(sum(prices[name] for name in names) for names in least))
        self.check_paper(chart, offered, prices, told)

    def check_paper(self, chart, offered, prices, cheapest):
        paper = set_paper(chart, offered, prices)
        self.assertIs(paper.__class__, tuple)
        names, told, apart = paper
        self.assert_same(names, cheapest)
        self.assertEqual(list(told), sorted(set(offered) - set(names)))
        self.assertEqual(list(apart), names)
        for name, numbers in told.items():
            ahead = {one: offered[one] for one in names if (prices[one], one) < (prices[name], name)}
            self.assertTrue(set(numbers) <= set(ahead))
            self.assertTrue(weighs(chart, ahead, offered[name], numbers))
            self.assertEqual(list(numbers), sorted(numbers))
            self.assert_told_short(numbers)
        for name, entry in apart.items():
            self.assertTrue(differs({one: offered[one] for one in names if one != name}, offered[name], entry))
            self.assertEqual(entry, sorted(entry))
        self.assert_bool(is_set_paper(chart, offered, prices, paper), True)
        self.assert_bool(is_set_paper(chart, offered, prices, (tuple(names), told, apart)), True)

    def test_known_sets(self):
        offered = {**KEPT, "z": REST}
        self.assert_same(least_sets(CHART, offered), [["x", "y"], ["x", "z"], ["y", "z"]])
        for prices, told in (({"x": 3, "y": 1, "z": 2}, ["y", "z"]), ({"x": 1, "y": 1, "z": 1}, ["x", "y"]),
                             ({"x": 0, "y": 9, "z": 0}, ["x", "z"]), ({"x": GREAT, "y": 0, "z": GREAT}, ["x", "y"])):
            self.assert_same(cheapest_set(CHART, offered, prices), told)
        self.assert_same(least_sets(CHART, {}), [[]])
        self.assert_same(cheapest_set(CHART, {}, {}), [])
        self.assert_same(set_paper(CHART, {}, {}), ([], {}, {}))
        self.assert_bool(is_set_paper(CHART, {}, {}, ((), {}, {})), True)

    def test_offers_like_the_empty_report(self):
        offered = {"x": {}, "y": {("a", "oil"): 1, ("ab", "oil"): 1, ("b", "oil"): 1}}
        self.assert_same(least_sets(CHART, offered), [[]])
        self.assert_same(cheapest_set(CHART, offered, {"x": 0, "y": 0}), [])
        self.assert_same(set_paper(CHART, offered, {"x": 0, "y": 0}), ([], {"x": {}, "y": {}}, {}))
        self.assert_bool(is_kept_set(CHART, offered, []), True)
        self.assert_bool(is_kept_set(CHART, offered, ["x", "y"]), True)

    def test_judges_of_kept_sets(self):
        offered = {**KEPT, "z": REST}
        for names in (["x", "y"], ("x", "z"), ["y", "z"], ["x", "y", "z"]):
            self.assert_bool(is_kept_set(CHART, offered, names), True)
        for names in (["y", "x"], ["x", "x", "y"], ["x"], [], ["x", "zz"], ["x", "y", "zz"], ["a", "x", "y"], ["x", "y", None], "xy", {"x": 1, "y": 1}, ["x", ["y"]],
                      ["x", 1], None, {"x", "y"}):
            self.assert_bool(is_kept_set(CHART, offered, names), False)

    def test_judges_of_set_papers(self):
        offered, prices = {**KEPT, "z": REST}, {"x": 1, "y": 2, "z": 3}
        apart = {"x": [("a", "coin", 1), ("ab", "coin", -1)], "y": [("b", "coin", 1), ("ab", "coin", -1)]}
        told = {"z": {"x": -1, "y": -HALF}}
        for paper in ((["x", "y"], told, apart), (("x", "y"), told, {"y": tuple(apart["y"]), "x": apart["x"]})):
            self.assert_bool(is_set_paper(CHART, offered, prices, paper), True)
        for paper in ([["x", "y"], told, apart], (["y", "x"], told, apart), (["x", "y"], told), (["x", "y"], told, apart, None),
                      (["x", "y"], {}, apart), (["x", "y"], told, {"x": apart["x"]}), (["x", "y"], {"z": {"x": -1}}, apart),
                      (["x", "y"], {**told, "x": {}}, apart), (["x", "y"], {"z": {"x": -1, "y": -HALF, "z": 0}}, apart),
                      (["x", "y"], told, {**apart, "x": apart["y"]}), (["x", "y"], told, {**apart, "z": apart["x"]}),
                      (["x", "y", "z"], {}, apart), (["x"], {"y": {}, "z": {}}, {"x": apart["x"]}), (None, told, apart),
                      (["x", "y"], None, apart), (["x", "y"], told, None), (["x", "y"], {"z": None}, apart),
                      (["x", "y"], told, {"x": None, "y": apart["y"]}), (["x", "y"], {"z": {"x": -1, "y": -HALF}, 1: {}}, apart),
                      (["x", "y", "zz"], told, apart), (["x", "y"], told, {**apart, "zz": apart["x"]}), (["x", "y"], told, {"x": apart["x"], "w": apart["y"]}),
                      (["x", "y"], {"w": {"x": -1, "y": -HALF}}, apart)):
            self.assert_bool(is_set_paper(CHART, offered, prices, paper), False)

    def test_set_papers_are_of_the_cheapest_set_alone(self):
        offered = {**KEPT, "z": REST}
        apart = {"x": [("a", "coin", 1), ("b", "coin", -1)], "z": [("ab", "coin", 1), ("b", "coin", -1)]}
        for told, wanted in (({"x": 1, "y": 1, "z": 1}, False), ({"x": 0, "y": 1, "z": 0}, True), ({"x": 0, "y": 1, "z": 1}, False)):
            paper = (["x", "z"], {"y": {"x": -2, "z": -2}}, apart)
            self.assert_bool(is_set_paper(CHART, offered, told, paper), wanted)
        self.assert_bool(is_set_paper(CHART, {"x": REST, "y": REST}, {"x": 1, "y": 1},
                                      (["x"], {"y": {"x": 1}}, {"x": [("ab", "coin", 1), ("b", "coin", -1)]})), True)
        self.assert_bool(is_set_paper(CHART, {"x": REST, "y": REST}, {"x": 1, "y": 1},
                                      (["y"], {"x": {"y": 1}}, {"y": [("ab", "coin", 1), ("b", "coin", -1)]})), False)
        self.assert_bool(is_set_paper(CHART, {"x": {}, "y": REST}, {"x": 0, "y": 1},
                                      (["y"], {"x": {"y": 0}}, {"y": [("ab", "coin", 1), ("b", "coin", -1)]})), False)
        self.assert_bool(is_set_paper(CHART, {"x": {}, "y": REST}, {"x": 2, "y": 1},
                                      (["y"], {"x": {"y": 0}}, {"y": [("ab", "coin", 1), ("b", "coin", -1)]})), True)

    def test_eight_and_twelve_reports(self):
        eight, twelve = many_reports(8), many_reports(12)
        self.assertEqual(least_sets(CHART, eight), [[name] for name in SOME_NAMES[:8]])
        for many in (9, 12):
            self.assert_raises(TooMany, {"what": "reports", "allowed": 8}, least_sets, CHART, many_reports(many))
        prices = {name: 1 for name in twelve}
        self.assertEqual(cheapest_set(CHART, twelve, prices), ["a"])
        self.assert_bool(is_kept_set(CHART, twelve, ["l"]), True)
        self.check_paper(CHART, twelve, prices, ["a"])

    def test_wrong_prices(self):
        wrong = [{"x": 1}, {"x": 1, "y": 1, "z": 1}, {"x": 1, "z": 1}, {"x": 1, "y": -1}, {"x": 1, "y": True},
                 {"x": 1, "y": Ratio(1)}, {"x": None, "y": 1}, [("x", 1), ("y", 1)], {"x": "1", "y": 1}, {}, {"x": 1, 2: 1}]
        for prices in wrong + values_of_every_kind():
            self.assert_keeps(InvalidPrices, prices, cheapest_set, CHART, KEPT, prices)
            self.assert_keeps(InvalidPrices, prices, set_paper, CHART, KEPT, prices)
            self.assert_keeps(InvalidPrices, prices, is_set_paper, CHART, KEPT, prices, None)
            self.assert_keeps(InvalidPrices, prices, cheapest_set, CHART, {**many_reports(13), "zz": {}}, prices)

    def test_by_name(self):
        prices = {"x": 1, "y": 1}
        self.assertEqual(is_kept_set(value=["x", "y"], offered=KEPT, chart=CHART), True)
        self.assertEqual(least_sets(offered=KEPT, chart=CHART), [["x", "y"]])
        self.assertEqual(cheapest_set(prices=prices, offered=KEPT, chart=CHART), ["x", "y"])
        paper = set_paper(prices=prices, offered=KEPT, chart=CHART)
        self.assertEqual(is_set_paper(value=paper, prices=prices, offered=KEPT, chart=CHART), True)
        self.assertEqual(is_told(report=REST, kept=KEPT, chart=CHART), True)
        self.assertEqual(weights(report=REST, kept=KEPT, chart=CHART), {"x": Ratio(-1), "y": -HALF})
        self.assertEqual(difference(report=REST, kept=KEPT, chart=CHART), None)
        self.assertEqual(are_weights(value={}, report=REST, kept=KEPT, chart=CHART), False)
        self.assertEqual(is_difference(value=[], report=REST, kept=KEPT, chart=CHART), False)


class ErrorsTest(Checks, unittest.TestCase):
    def calls(self, chart, kept, report):
        """All functions with a chart, kept or offered reports, and a report; later parameters are wrong."""
        return [(is_told, (chart, kept, report)), (weights, (chart, kept, report)), (difference, (chart, kept, report)),
                (are_weights, (chart, kept, report, None)), (is_difference, (chart, kept, report, None)),
                (told_value, (chart, kept, report, None))]

    def offers(self, chart, offered):
        return [(is_kept_set, (chart, offered, None)), (least_sets, (chart, offered)), (cheapest_set, (chart, offered, None)),
                (set_paper, (chart, offered, None)), (is_set_paper, (chart, offered, None, None))]

    def test_charts(self):
        for one in values_of_every_kind():
            if isinstance(one, Chart):
                continue
            for call, args in self.calls(one, None, None) + self.offers(one, None):
                self.assert_keeps(InvalidChart, one, call, *args)
            self.assert_keeps(InvalidChart, one, own_weights, one, None)
            self.assert_keeps(InvalidChart, one, are_like, one, None, None)

    def test_journals(self):
        for one in values_of_every_kind() + [CHART]:
            if not isinstance(one, Journal):
                self.assert_keeps(InvalidJournal, one, value, one, {})
                self.assert_keeps(InvalidJournal, one, value, one, None)

    def test_kept_reports(self):
        for one in no_reports():
            for call, args in self.calls(CHART, one, None) + self.offers(CHART, one):
                self.assert_keeps(InvalidReports, one, call, *args)
        for one in (many_reports(12) | {"zz": None}, many_reports(14) | {"Z": {}}):
            for call, args in self.calls(CHART, one, {}) + self.offers(CHART, one):
                self.assert_keeps(InvalidReports, one, call, *args)

    def test_reports(self):
        kinds = [one for one in values_of_every_kind() if one.__class__ is not dict or one not in ({}, {("a", "coin"): 1})]
        for one in WRONG_REPORTS + kinds:
            for kept in (KEPT, many_reports(13)):
                for call, args in self.calls(CHART, kept, one):
                    self.assert_keeps(InvalidReport, one, call, *args)
            self.assert_keeps(InvalidReport, one, own_weights, CHART, one)
            self.assert_keeps(InvalidReport, one, are_like, CHART, one, None)
            self.assert_keeps(InvalidReport, one, are_like, CHART, {}, one)
            self.assert_keeps(InvalidReport, one, value, BOOKS, one)

    def test_a_report_is_of_its_chart(self):
        other = Journal(Chart(["a", "c"], ["tea"]))
        self.assert_keeps(InvalidReport, REST, value, other, REST)
        self.assertEqual(value(other, {("c", "tea"): 1}), Ratio(0))

    def test_up_to_twelve_reports(self):
        thirteen, twelve = many_reports(13), many_reports(12)
        prices = {name: 0 for name in thirteen}
        allowed = {"what": "reports", "allowed": 12}
        for call, args in self.calls(CHART, thirteen, {})[:5] + self.offers(CHART, thirteen)[:2]:
            self.assert_raises(TooMany, allowed, call, *args)
        self.assert_raises(TooMany, allowed, cheapest_set, CHART, thirteen, prices)
        self.assert_raises(TooMany, allowed, set_paper, CHART, thirteen, prices)
        self.assert_raises(TooMany, allowed, is_set_paper, CHART, thirteen, prices, None)
        self.assert_bool(is_told(CHART, twelve, KEPT["x"]), True)
        self.assert_bool(is_told(CHART, twelve, REST), False)
        self.assertIsNotNone(difference(CHART, twelve, REST))

    def test_told_parts_are_new_and_nothing_is_changed(self):
        kept, report, prices = {name: dict(one) for name, one in KEPT.items()}, dict(REST), {"x": 1, "y": 0, "z": 0}
        offered = {"z": dict(REST), **kept}
        for call in (lambda: own_weights(CHART, report), lambda: weights(CHART, kept, report),
                     lambda: difference(CHART, kept, OIL), lambda: least_sets(CHART, offered),
                     lambda: cheapest_set(CHART, offered, prices), lambda: set_paper(CHART, offered, prices)):
            self.assert_all_new(call)
        told_value(CHART, kept, report, {"y": 1, "x": 1})
        self.assert_same([kept, report, prices, list(offered)], [KEPT, REST, {"x": 1, "y": 0, "z": 0}, ["z", "x", "y"]])

    def test_the_sequence_of_keys_has_no_effect(self):
        turned = {"y": KEPT["y"], "x": KEPT["x"]}
        self.assert_same(weights(CHART, turned, REST), weights(CHART, KEPT, REST))
        self.assert_same(difference(CHART, turned, OIL), difference(CHART, KEPT, OIL))
        self.assert_same(set_paper(CHART, turned, {"y": 0, "x": 0}), set_paper(CHART, KEPT, {"x": 0, "y": 0}))
        self.assertEqual(above("a.b.c"), ["a", "a.b", "a.b.c"])


if __name__ == "__main__":
    unittest.main()
