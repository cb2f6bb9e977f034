"""[26], [27], and the part "lateledger/wholes.py"."""

import unittest
from fractions import Fraction
from itertools import product
from random import Random

from lateledger.accounts import Chart
from lateledger.errors import InvalidChart, InvalidNumbers, InvalidReports, TooMany
from lateledger.journals import Journal
from lateledger.ratios import Ratio
from lateledger.reports import value
from lateledger.wholes import bar, do_stand, do_stand_whole, is_bar, is_whole_bar, journal_with, whole_bar, whole_journal
from tests.books import bars_numbers, bars_whole, plus, small_ratio, some_chart, some_report, some_reports, value_by_sums
from tests.support import GREAT, Checks, fraction, values_of_every_kind
from tests.test_reports import many_reports, no_reports

HALF = Ratio(1, 2)
CHART = Chart(["a", "a.b", "ab", "b"], ["coin", "oil"])
KEPT = {"x": {("a", "coin"): 1}, "y": {("b", "coin"): 2}}
HANGING = {**KEPT, "z": {("ab", "coin"): 1}}
PLAIN = (do_stand, journal_with, bar)
WHOLE = (do_stand_whole, whole_journal, whole_bar)


class WholesChecks(Checks):
    def check_journal(self, journal, chart, kept, numbers, whole):
        """That it is a Journal of at most one entry that has the numbers, by the sums of the document."""
        self.assertIs(journal.__class__, Journal)
        self.assertEqual(journal.chart, chart)
        self.assertLessEqual(len(journal), 1)
        for name, number in numbers.items():
            self.assertEqual(value_by_sums(journal.entries(), kept[name]), fraction(number))
        self.assert_told_short(journal.entries())
        if whole:
            self.assertTrue(all(line[2].is_whole for entry in journal.entries() for line in entry))

    def check(self, chart, kept, numbers):
        """That just one of a journal and a bar is told, and that it is one."""
        journal, paper = journal_with(chart, kept, numbers), bar(chart, kept, numbers)
        self.assertEqual(journal is None, paper is not None)
        self.assert_bool(do_stand(chart, kept, numbers), paper is None)
        if paper is None:
            self.check_journal(journal, chart, kept, numbers, False)
        else:
            self.check_paper(paper, kept)
            self.assertTrue(bars_numbers(chart, kept, numbers, paper))
            self.assert_bool(is_bar(chart, kept, numbers, paper), True)
        return paper is None

    def check_whole(self, chart, kept, numbers):
        journal, paper = whole_journal(chart, kept, numbers), whole_bar(chart, kept, numbers)
        self.assertEqual(journal is None, paper is not None)
        self.assert_bool(do_stand_whole(chart, kept, numbers), paper is None)
        if paper is None:
            self.check_journal(journal, chart, kept, numbers, True)
            self.assertTrue(do_stand(chart, kept, numbers))
        else:
            self.check_paper(paper, kept)
            self.assertTrue(bars_whole(chart, kept, numbers, paper))
            self.assert_bool(is_whole_bar(chart, kept, numbers, paper), True)
        return paper is None

    def check_paper(self, paper, kept):
        self.assertIs(paper.__class__, dict)
        self.assertEqual(list(paper), [name for name in sorted(kept) if name in paper])
        self.assert_told_short(paper)


class StandTest(WholesChecks, unittest.TestCase):
    def test_many_numbers(self):
        source, found = Random(81), [0, 0]
        for _ in range(250):
            chart = some_chart(source)
            kept = some_reports(source, chart)
            numbers = {name: small_ratio(source) for name in kept}
            if source.random() < 0.4:
                numbers = {name: Ratio(0) + 3 * sum(report.values()) for name, report in kept.items()}
                own = {("b", chart.units()[0]): 3}
                numbers = {name: report.get(("b", chart.units()[0]), 0) * own["b", chart.units()[0]] for name, report in kept.items()}
            found[self.check(chart, kept, numbers)] += 1
        self.assertGreater(min(found), 40)

    def test_numbers_of_journals_stand(self):
        source = Random(82)
        for _ in range(80):
            chart = some_chart(source)
            if len(chart) < 2:
                continue
            kept = some_reports(source, chart)
            one, other = source.sample(chart.accounts(), 2)
            unit, amount = source.choice(chart.units()), source.choice([Ratio(2, 3), -5, GREAT])
            journal = Journal(chart, [[(one, unit, amount), (other, unit, amount * -1)]])
            numbers = {name: value(journal, report) for name, report in kept.items()}
            self.assertTrue(self.check(chart, kept, numbers))
            if amount.__class__ is int:
                self.assertTrue(self.check_whole(chart, kept, {name: number.top for name, number in numbers.items()}))

    def test_known_numbers(self):
        for numbers in ({"x": 1, "y": 1}, {"x": HALF, "y": Ratio(-7, 3)}, {"y": 0, "x": 0}, {"x": GREAT, "y": -GREAT}):
            self.assertTrue(self.check(CHART, KEPT, numbers))
        self.assertEqual(journal_with(CHART, KEPT, {"x": 0, "y": 0}), Journal(CHART))
        self.assertTrue(self.check(CHART, HANGING, {"x": 1, "y": 2, "z": -2}))
        self.assertFalse(self.check(CHART, HANGING, {"x": 1, "y": 2, "z": 2}))
        self.assertFalse(self.check(CHART, HANGING, {"x": 0, "y": 0, "z": 1}))

    def test_no_kept_reports_and_reports_like_the_empty_one(self):
        self.assertTrue(self.check(CHART, {}, {}))
        self.assertTrue(self.check_whole(CHART, {}, {}))
        self.assertEqual(journal_with(CHART, {}, {}), Journal(CHART))
        self.assertEqual(whole_journal(CHART, {}, {}), Journal(CHART))
        nothing = {"x": {("a", "oil"): 3, ("ab", "oil"): 3, ("b", "oil"): 3}, "y": {}}
        for number, wanted in ((0, True), (1, False), (-GREAT, False)):
            self.assertEqual(self.check(CHART, nothing, {"x": number, "y": 0}), wanted)
            self.assertEqual(self.check(CHART, nothing, {"x": 0, "y": number}), wanted)
            self.assertEqual(self.check_whole(CHART, nothing, {"x": number, "y": 0}), wanted)

    def test_an_own_account_alone(self):
        chart = Chart(["a"], ["coin"])
        self.assertTrue(self.check(chart, {"x": {("a", "coin"): 1}}, {"x": 0}))
        self.assertFalse(self.check(chart, {"x": {("a", "coin"): 1}}, {"x": 1}))
        self.assertFalse(self.check_whole(chart, {"x": {("a", "coin"): 1}}, {"x": 2}))

    def test_great_numbers(self):
        source = Random(83)
        accounts = [one + other for one in "abcdef" for other in "abcdefghij"]
        names = "abcdefghijkl"
        for many, units in ((60, ["coin", "oil"]), (13, ["coin"])):
            chart = Chart(accounts[:many], units)
            kept = {name: {(account, unit): source.randint(-GREAT, GREAT) for account in chart.accounts() for unit in units}
                    for name in names}
            numbers = {name: source.randint(-GREAT, GREAT) for name in names}
            self.assertTrue(self.check(chart, kept, numbers))
            self.assertEqual(self.check_whole(chart, kept, numbers), many == 60)
        twelve = Chart(accounts[:12], ["coin"])
        kept = {name: {(account, "coin"): source.randint(-GREAT, GREAT) for account in twelve.accounts()} for name in names}
        self.assertFalse(self.check(twelve, kept, numbers))
        self.assertFalse(self.check_whole(twelve, kept, numbers))
        eleven = {name: kept[name] for name in names[:11]}
        told = {name: Ratio(numbers[name], 3) for name in names[:11]}
        self.assertTrue(self.check(twelve, eleven, told))

    def test_judges(self):
        numbers = {"x": 1, "y": 2, "z": 2}
        for paper in ({"x": 1, "y": HALF, "z": 1}, {"x": 2, "y": 1, "z": Ratio(2)}, {"z": -4, "y": -2, "x": -4}):
            self.assert_bool(is_bar(CHART, HANGING, numbers, paper), True)
            self.assert_bool(is_bar(CHART, HANGING, {"x": 1, "y": 2, "z": -2}, paper), False)
        self.assert_bool(is_bar(CHART, {**HANGING, "w": {}}, {**numbers, "w": 0}, {"x": 1, "y": HALF, "z": 1}), True)
        self.assert_bool(is_bar(CHART, {**HANGING, "w": {}}, {**numbers, "w": 1}, {"w": 1}), True)
        for paper in ({"x": 1, "y": HALF}, {"x": 1, "y": 1, "z": 1}, {}, {"x": 0, "y": 0, "z": 0}, {"x": 1, "y": HALF, "z": True},
                      {"x": 1, "y": HALF, "z": 1, "w": 0}, {"x": 1, "y": HALF, "z": "1"}, [1, HALF, 1], {"x": 1, "y": HALF, "z": None},
                      {"x": 1, "y": HALF, "z": 1, 1: 0}, {"x": -1, "y": HALF, "z": 1}):
            self.assert_bool(is_bar(CHART, HANGING, numbers, paper), False)
        for paper in values_of_every_kind():
            self.assert_bool(is_bar(CHART, HANGING, numbers, paper), False)
            self.assert_bool(is_whole_bar(CHART, HANGING, numbers, paper), False)

    def test_judges_like_the_sums(self):
        source = Random(84)
        for _ in range(300):
            chart = some_chart(source)
            kept = some_reports(source, chart, 3, 2)
            numbers = {name: source.randint(-2, 2) for name in kept}
            paper = {name: source.choice([0, 1, -1, HALF, -HALF, Ratio(1, 3), 2]) for name in kept if source.random() < 0.8}
            for one in [paper, bar(chart, kept, numbers), whole_bar(chart, kept, numbers)]:
                if one is not None:
                    self.assert_bool(is_bar(chart, kept, numbers, one), bars_numbers(chart, kept, numbers, one))
                    self.assert_bool(is_whole_bar(chart, kept, numbers, one), bars_whole(chart, kept, numbers, one))


class StandWholeTest(WholesChecks, unittest.TestCase):
    def test_many_numbers(self):
        source, found = Random(91), [0, 0]
        for _ in range(400):
            chart = some_chart(source)
            kept = some_reports(source, chart, 4, source.choice([3, 6, 12]))
            factor = source.choice([1, 2, 3, 4, 6])
            kept = {name: plus(report, factor, {}, 0) if source.random() < 0.5 else report for name, report in kept.items()}
            numbers = {name: source.randint(-6, 6) for name in kept}
            if source.random() < 0.5:
                numbers = {name: value_of_some_entry(chart, report, source) for name, report in kept.items()}
            found[self.check_whole(chart, kept, numbers)] += 1
        self.assertGreater(min(found), 100)

    def test_weights_of_many_primes(self):
        source, found = Random(93), [0, 0]
        primes = (2, 3, 5, 7, 11)
        accounts = [one + other for one in "abc" for other in "abc"]
        for turn in range(120):
            chart = Chart(accounts[:source.randint(3, 9)], ["coin", "oil"][:source.randint(1, 2)])
            kept = {}
            for name in ("x", "y", "z")[:source.randint(1, 3)]:
                kept[name] = {}
                for account in chart.accounts():
                    for unit in chart.units():
                        left = source.choice(primes) * source.choice(primes) if turn % 2 else 1
                        kept[name][account, unit] = 2 * 3 * 5 * 7 * 11 // source.choice(primes) * left * source.choice([0, 1, -1])
            numbers = {name: value_of_some_entry(chart, report, source) for name, report in kept.items()}
            self.assertTrue(self.check_whole(chart, kept, numbers))
            for name in numbers:
                step = source.choice([1, 2, 6, 210])
                found[self.check_whole(chart, kept, {**numbers, name: numbers[name] + step})] += 1
        self.assertGreater(min(found), 20)

    def test_great_weights(self):
        source = Random(94)
        for many in (12, 13, 14, 20):
            chart = Chart([one + other for one in "abcd" for other in "abcde"][:many], ["coin"])
            kept = {name: {(account, "coin"): 6 * source.randint(-10 ** 29, 10 ** 29) for account in chart.accounts()}
                    for name in "abcdefghijkl"}
            numbers = {name: value_of_some_entry(chart, report, source) for name, report in kept.items()}
            self.assertTrue(self.check_whole(chart, kept, numbers))
            self.assertFalse(self.check_whole(chart, kept, {**numbers, "c": numbers["c"] + 2}))

    def test_all_small_entries(self):
        chart = Chart(["a", "b", "c"], ["coin"])
        source = Random(92)
        for _ in range(60):
            kept = {name: some_report(source, chart, 4) for name in ("x", "y")}
            reached = set()
            for one, other in product(range(-12, 13), repeat=2):
                entry = [("a", "coin", one), ("b", "coin", other), ("c", "coin", -one - other)]
                reached.add(tuple(value_by_sums([entry], kept[name]) for name in ("x", "y")))
            for pair in product(range(-2, 3), repeat=2):
                wanted = (Fraction(pair[0]), Fraction(pair[1])) in reached
                told = self.check_whole(chart, kept, {"x": pair[0], "y": pair[1]})
                self.assertTrue(told or not wanted)

    def test_known_numbers(self):
        self.assertTrue(self.check_whole(CHART, KEPT, {"x": 1, "y": 2}))
        self.assertFalse(self.check_whole(CHART, KEPT, {"x": 1, "y": 1}))
        self.assertTrue(self.check_whole(CHART, KEPT, {"x": GREAT, "y": -2 * (GREAT // 9)}))
        self.assertFalse(self.check_whole(CHART, HANGING, {"x": 1, "y": 2, "z": 2}))
        self.assertTrue(self.check_whole(CHART, HANGING, {"x": 1, "y": 2, "z": -2}))
        six = {"x": {("a", "coin"): 6, ("ab", "coin"): 10, ("b", "coin"): 15}}
        for number in range(-3, 4):
            self.assertTrue(self.check_whole(CHART, six, {"x": number}))
        even = {"x": {("a", "coin"): 6, ("ab", "coin"): 10, ("b", "coin"): 14}}
        for number in range(-9, 10):
            self.assertEqual(self.check_whole(CHART, even, {"x": number}), number % 4 == 0)
        both = {"x": {("a", "coin"): 1, ("b", "coin"): 1}, "y": {("a", "coin"): 1, ("b", "coin"): -1}}
        for one, other in product(range(-2, 3), repeat=2):
            self.assertEqual(self.check_whole(CHART, both, {"x": one, "y": other}), (one - other) % 2 == 0)

    def test_a_bar_of_numbers_that_do_not_stand_at_all(self):
        for number in (1, 2, 6, 12, 60, 27720, GREAT):
            self.assertFalse(self.check_whole(CHART, {"x": {}}, {"x": number}))

    def test_judges(self):
        numbers = {"x": 1, "y": 1}
        for paper in ({"y": HALF}, {"x": 0, "y": HALF}, {"x": 5, "y": Ratio(-3, 2)}):
            self.assert_bool(is_whole_bar(CHART, KEPT, numbers, paper), True)
            self.assert_bool(is_whole_bar(CHART, KEPT, {"x": 1, "y": 2}, paper), False)
        for paper in ({"y": 1}, {"y": Ratio(1, 4)}, {"x": HALF, "y": HALF}, {"x": HALF}, {}, {"y": HALF, "z": 0}, {"y": True},
                      [0, HALF], {"x": None, "y": HALF}, {"y": HALF, 1: 0}, {"x": HALF, "y": 1}):
            self.assert_bool(is_whole_bar(CHART, KEPT, numbers, paper), False)


def value_of_some_entry(chart, report, source):
    """The value of the report for one entry of the chart that hangs on the chart alone."""
    accounts = chart.accounts()
    entry = [(account, unit, at + 1) for at, account in enumerate(accounts[1:]) for unit in chart.units()]
    entry += [(accounts[0], unit, -sum(range(1, len(accounts)))) for unit in chart.units()]
    return int(value_by_sums([entry], report))


class ErrorsTest(WholesChecks, unittest.TestCase):
    def calls(self, *args):
        told = [(call, args) for call in PLAIN + WHOLE]
        return told + [(is_bar, (*args, None)), (is_whole_bar, (*args, None))]

    def test_charts(self):
        for one in values_of_every_kind():
            if not isinstance(one, Chart):
                for call, args in self.calls(one, None, None):
                    self.assert_keeps(InvalidChart, one, call, *args)

    def test_kept_reports(self):
        for one in no_reports() + [many_reports(13) | {"zz": None}]:
            for call, args in self.calls(CHART, one, None):
                self.assert_keeps(InvalidReports, one, call, *args)

    def test_wrong_numbers(self):
        wrong = [{"x": 1}, {"x": 1, "y": 1, "z": 1}, {"x": 1, "z": 1}, {"x": 1, "y": True}, {"x": None, "y": 1}, {},
                 {"x": "1", "y": 1}, {"x": 1, "y": [1]}, [("x", 1), ("y", 1)], [1, 1], {"x": 1, 2: 1}, {"x": 1, None: 1}]
        for numbers in wrong + values_of_every_kind():
            for call, args in self.calls(CHART, KEPT, numbers) + self.calls(CHART, many_reports(13), numbers):
                self.assert_keeps(InvalidNumbers, numbers, call, *args)

    def test_whole_numbers_are_integers_alone(self):
        for numbers in ({"x": 1, "y": Ratio(1)}, {"x": HALF, "y": 1}, {"x": Ratio(2), "y": Ratio(2)}):
            for call in WHOLE:
                self.assert_keeps(InvalidNumbers, numbers, call, CHART, KEPT, numbers)
            self.assert_keeps(InvalidNumbers, numbers, is_whole_bar, CHART, KEPT, numbers, None)
            self.assert_bool(do_stand(CHART, KEPT, numbers), True)
            self.assert_bool(is_bar(CHART, KEPT, numbers, None), False)

    def test_up_to_twelve_reports(self):
        thirteen, twelve = many_reports(13), many_reports(12)
        for call, args in self.calls(CHART, thirteen, {name: 1 for name in thirteen}):
            self.assert_raises(TooMany, {"what": "reports", "allowed": 12}, call, *args)
        numbers = {name: 1 for name in twelve}
        self.assertTrue(self.check(CHART, twelve, numbers))
        self.assertTrue(self.check_whole(CHART, twelve, numbers))
        self.assertFalse(self.check(CHART, twelve, {**numbers, "c": 2}))
        self.assertFalse(self.check_whole(CHART, twelve, {**numbers, "c": 2}))

    def test_by_name(self):
        numbers = {"x": 1, "y": 1}
        for call, wanted in ((do_stand, True), (bar, None), (do_stand_whole, False), (whole_journal, None)):
            self.assertEqual(call(numbers=numbers, kept=KEPT, chart=CHART), wanted)
        self.assertEqual(len(journal_with(numbers=numbers, kept=KEPT, chart=CHART)), 1)
        paper = whole_bar(numbers=numbers, kept=KEPT, chart=CHART)
        self.assertIs(is_whole_bar(value=paper, numbers=numbers, kept=KEPT, chart=CHART), True)
        self.assertIs(is_bar(value=paper, numbers=numbers, kept=KEPT, chart=CHART), False)

    def test_told_parts_are_new_and_nothing_is_changed(self):
        kept, numbers = {name: dict(one) for name, one in HANGING.items()}, {"z": 2, "x": 1, "y": 2}
        for call in (lambda: bar(CHART, kept, numbers), lambda: whole_bar(CHART, kept, numbers),
                     lambda: whole_bar(CHART, KEPT, {"x": 1, "y": 1})):
            self.assert_all_new(call)
        self.assertEqual(journal_with(CHART, KEPT, {"x": 3, "y": 2}), journal_with(CHART, KEPT, {"y": 2, "x": 3}))
        self.assertEqual(whole_journal(CHART, KEPT, {"x": 3, "y": 2}), whole_journal(CHART, KEPT, {"y": 2, "x": 3}))
        self.assert_same([kept, numbers], [HANGING, {"z": 2, "x": 1, "y": 2}])


if __name__ == "__main__":
    unittest.main()
