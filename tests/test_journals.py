"""[22] and the part "lateledger/journals.py": entries and Journal."""

import unittest
from fractions import Fraction
from random import Random

from lateledger.accounts import Chart
from lateledger.errors import InvalidChart, InvalidEntries, InvalidEntry, InvalidJournal, InvalidNumber, OtherChart
from lateledger.errors import TooMany, UnknownAccount, UnknownUnit
from lateledger.journals import Journal, is_entry
from lateledger.ratios import Ratio
from tests.support import GREAT, Checks, fraction, looks_like, values_of_every_kind

HALF = Ratio(1, 2)
CHART = Chart(["a", "a.b", "a.b.c", "ab", "b"], ["coin", "oil"])
ONE = [("b", "coin", -5), ("a", "coin", 5)]
TWO = (("a.b", "oil", HALF), ("a.b.c", "oil", Ratio(3, 2)), ("ab", "oil", -2), ("b", "coin", 1), ("ab", "coin", -1))
THREE = [("b", "coin", 5), ("a.b", "coin", -5)]
TOLD_ONE = [("a", "coin", Ratio(5)), ("b", "coin", Ratio(-5))]
TOLD_TWO = [("a.b", "oil", HALF), ("a.b.c", "oil", Ratio(3, 2)), ("ab", "coin", Ratio(-1)), ("ab", "oil", Ratio(-2)),
            ("b", "coin", Ratio(1))]
TOLD_THREE = [("a.b", "coin", Ratio(-5)), ("b", "coin", Ratio(5))]
LINE = ("b", "coin", -1)
WRONG_LINES = [
    ["a", "coin", 1], ("a", "coin"), ("a", "coin", 1, 1), (), None, "line", ("c", "coin", 1), ("a", "tea", 1),
    ("coin", "a", 1), (["a"], "coin", 1), ("a", ["coin"], 1), (None, "coin", 1), ("a", None, 1), ("a", "coin", None),
    ("a", "coin", True), ("a", "coin", "1"), ("a", "coin", [1]), ("A", "coin", 1), ("a.", "coin", 1), {"a": 1},
]
WRONG_ENTRIES = [
    [], (), None, "entry", {}, ("a", "coin", 1), [("a", "coin", 1)], [("a", "coin", 1), ("b", "coin", -2)],
    [("a", "coin", 1), ("b", "oil", -1)], [("a", "coin", 0)], [("a", "coin", 0), ("b", "coin", 0)],
    [("a", "coin", 1), ("b", "coin", -1), ("ab", "coin", 0)], [("a", "coin", Ratio(0)), ("b", "coin", Ratio(0))],
    [("a", "coin", 1), ("a", "coin", 1), ("b", "coin", -2)], [("a", "coin", 1), ("a", "coin", -1)],
    [("a", "coin", HALF), ("b", "coin", Ratio(-1, 3))], [("a", "coin", 1), ("b", "coin", -1), ("a", "oil", 1)],
    {("a", "coin", 1): 1, ("b", "coin", -1): 1},
] + [[line, LINE] for line in WRONG_LINES]


class EntryTest(Checks, unittest.TestCase):
    def test_entries(self):
        for entry in (ONE, TWO, THREE, TOLD_ONE, tuple(TOLD_TWO), [("a", "coin", GREAT), ("b", "coin", -GREAT)],
                      [("a", "coin", HALF), ("a", "oil", 1), ("b", "coin", -HALF), ("b", "oil", -1)]):
            self.assert_bool(is_entry(CHART, entry), True)
            self.assert_bool(is_entry(value=entry, chart=CHART), True)

    def test_no_entries(self):
        for entry in WRONG_ENTRIES + values_of_every_kind():
            self.assert_bool(is_entry(CHART, entry), False)

    def test_an_entry_is_of_its_chart(self):
        self.assert_bool(is_entry(Chart(["a", "b"], ["oil"]), ONE), False)
        self.assert_bool(is_entry(Chart(["a", "c"], ["coin"]), ONE), False)
        self.assert_bool(is_entry(Chart(["a", "b"], ["coin"]), ONE), True)

    def test_chart(self):
        for value in values_of_every_kind():
            if not isinstance(value, Chart):
                self.assert_keeps(InvalidChart, value, is_entry, value, ONE)
                self.assert_keeps(InvalidChart, value, Journal, value, None)


class JournalTest(Checks, unittest.TestCase):
    def setUp(self):
        self.journal = Journal(CHART, [ONE, TWO, THREE])

    def tearDown(self):
        self.assertEqual(self.journal, Journal(CHART, [ONE, TWO, THREE]))

    def test_told_parts(self):
        self.assert_same(self.journal.entries(), [TOLD_ONE, TOLD_TWO, TOLD_THREE])
        self.assertEqual(self.journal.chart, CHART)
        self.assertEqual(len(self.journal), 3)
        self.assert_same(Journal(CHART).entries(), [])
        self.assertEqual(len(Journal(CHART)), 0)
        with self.assertRaises(AttributeError):
            self.journal.chart = CHART

    def test_lists_tuples_and_names(self):
        for other in (Journal(CHART, (tuple(ONE), TWO, THREE)), Journal(entries=[TOLD_ONE, TWO, THREE], chart=CHART)):
            self.assertEqual(other, self.journal)
        self.assertEqual(self.journal.joined(other=Journal(CHART)), self.journal)
        self.assertEqual(self.journal.first(count=3), self.journal)
        self.assertEqual(self.journal.own(unit="coin", account="a"), Ratio(5))
        self.assertEqual(self.journal.balance(unit="coin", account="a"), Ratio(0))

    def test_wrong_lists_of_entries(self):
        for value in values_of_every_kind():
            if not isinstance(value, (list, tuple)):
                self.assert_raises(InvalidEntries, {"position": None}, Journal, CHART, value)

    def test_wrong_entries(self):
        for value in WRONG_ENTRIES + values_of_every_kind():
            self.assert_raises(InvalidEntries, {"position": 0}, Journal, CHART, [value])
            self.assert_raises(InvalidEntries, {"position": 2}, Journal, CHART, (ONE, TWO, value, ONE, value))
            self.assert_keeps(InvalidEntry, value, lambda: self.journal + value)

    def test_up_to_300_entries(self):
        full = Journal(CHART, [ONE] * 300)
        self.assertEqual(len(full), 300)
        self.assertEqual(full, Journal(CHART, [ONE] * 299) + ONE)
        for many in (301, 302):
            self.assert_raises(TooMany, {"what": "entries", "allowed": 300}, Journal, CHART, [ONE] * many)
        self.assert_raises(InvalidEntries, {"position": 301}, Journal, CHART, [ONE] * 301 + [None])
        self.assert_raises(TooMany, {"what": "entries", "allowed": 300}, lambda: full + ONE)
        self.assert_keeps(InvalidEntry, None, lambda: full + None)
        self.assertEqual(len(full.joined(Journal(CHART))), 300)
        self.assertEqual(len(full.first(297).joined(self.journal)), 300)
        self.assert_raises(TooMany, {"what": "entries", "allowed": 300}, full.first(298).joined, self.journal)

    def test_position(self):
        for at, told in enumerate((TOLD_ONE, TOLD_TWO, TOLD_THREE)):
            self.assert_same(self.journal[at], told)
        for value in values_of_every_kind() + [3, 4, -3, "0", Ratio(1)]:
            if value.__class__ is not int or value not in range(3):
                self.assert_keeps(InvalidNumber, value, lambda: self.journal[value])
        self.assert_keeps(InvalidNumber, 0, lambda: Journal(CHART)[0])

    def test_plus(self):
        more = self.journal + TOLD_ONE
        self.assertEqual(more, Journal(CHART, [ONE, TWO, THREE, ONE]))
        self.assertEqual(Journal(CHART) + TWO, Journal(CHART, [TWO]))
        self.assertEqual(len(self.journal), 3)

    def test_joined(self):
        other = Journal(Chart(["b", "ab", "a.b.c", "a.b", "a"], ["oil", "coin"]), [THREE])
        self.assertEqual(self.journal.joined(other), Journal(CHART, [ONE, TWO, THREE, THREE]))
        self.assertEqual(other.joined(self.journal), Journal(CHART, [THREE, ONE, TWO, THREE]))
        self.assertEqual(other, Journal(CHART, [THREE]))
        for value in values_of_every_kind() + [[ONE], CHART]:
            if not isinstance(value, Journal):
                self.assert_keeps(InvalidJournal, value, self.journal.joined, value)
        for chart in (Chart(["a", "b"], ["coin"]), Chart(CHART.accounts(), ["coin", "oil", "tea"])):
            self.assert_raises(OtherChart, {}, self.journal.joined, Journal(chart, [[("a", "coin", 1), ("b", "coin", -1)]]))

    def test_other_charts_are_ahead_of_too_many(self):
        other = Chart(["a", "b"], ["coin"])
        self.assert_raises(OtherChart, {}, Journal(CHART, [ONE] * 300).joined, Journal(other, [ONE]))

    def test_turned(self):
        turned = [[(account, unit, -amount) for account, unit, amount in entry] for entry in (TOLD_THREE, TOLD_TWO, TOLD_ONE)]
        self.assert_same(self.journal.turned().entries(), turned)
        self.assertEqual(self.journal.turned().turned(), self.journal)
        self.assertEqual(self.journal.joined(self.journal.turned()).own_balances(), {})
        self.assertEqual(Journal(CHART).turned(), Journal(CHART))

    def test_first(self):
        for count in range(4):
            self.assertEqual(self.journal.first(count), Journal(CHART, [ONE, TWO, THREE][:count]))
        for value in values_of_every_kind() + [4, -1, -3]:
            if value.__class__ is not int or value not in range(4):
                self.assert_keeps(InvalidNumber, value, self.journal.first, value)

    def test_own_and_balance(self):
        own = {("a", "coin"): 5, ("a.b", "coin"): -5, ("a.b", "oil"): HALF, ("a.b.c", "oil"): Ratio(3, 2), ("ab", "coin"): -1,
               ("ab", "oil"): -2, ("b", "coin"): 1}
        balances = {("a", "oil"): 2, ("a.b", "coin"): -5, ("a.b", "oil"): 2, ("a.b.c", "oil"): Ratio(3, 2),
                    ("ab", "coin"): -1, ("ab", "oil"): -2, ("b", "coin"): 1}
        for account in CHART.accounts():
            for unit in CHART.units():
                for call, table in ((self.journal.own, own), (self.journal.balance, balances)):
                    told = call(account, unit)
                    self.assertIs(told.__class__, Ratio)
                    self.assertEqual(fraction(told), fraction(table.get((account, unit), 0)))
        self.assert_same(self.journal.own_balances(), {place: Ratio(1) * own[place] for place in sorted(own)})
        self.assert_same(self.journal.balances(), {place: Ratio(1) * balances[place] for place in sorted(balances)})

    def test_unknown_accounts_and_units(self):
        for call in (self.journal.own, self.journal.balance):
            for value in values_of_every_kind() + ["c", "a.c", "coin", "a.b.d", ["a"], ("a",)]:
                if value.__class__ is not str or value not in CHART.accounts():
                    self.assert_keeps(UnknownAccount, value, call, value, "coin")
                    self.assert_keeps(UnknownAccount, value, call, value, None)
                if not looks_like(value, "coin"):
                    self.assert_keeps(UnknownUnit, value, call, "a", value)

    def test_in_one(self):
        self.assert_same(self.journal.in_one(), [
            ("a", "coin", Ratio(5)), ("a.b", "coin", Ratio(-5)), ("a.b", "oil", HALF), ("a.b.c", "oil", Ratio(3, 2)),
            ("ab", "coin", Ratio(-1)), ("ab", "oil", Ratio(-2)), ("b", "coin", Ratio(1))])
        self.assertEqual(Journal(CHART, [self.journal.in_one()]).own_balances(), self.journal.own_balances())
        self.assert_same(Journal(CHART).in_one(), [])
        self.assert_same(self.journal.joined(self.journal.turned()).in_one(), [])

    def test_sums_of_many_entries(self):
        source = Random(41)
        entries, own = [], {}
        for _ in range(60):
            unit, accounts = source.choice(CHART.units()), source.sample(CHART.accounts(), 3)
            amounts = [Ratio(source.choice([-1, 1]) * source.randint(1, GREAT), source.randint(1, 9)) for _ in range(2)]
            amounts.append(-amounts[0] - amounts[1])
            if amounts[2].sign != 0:
                entries.append([(account, unit, amount) for account, amount in zip(accounts, amounts)])
                for account, amount in zip(accounts, amounts):
                    own[account, unit] = own.get((account, unit), Fraction(0)) + fraction(amount)
        journal = Journal(CHART, entries)
        for account in CHART.accounts():
            for unit in CHART.units():
                self.assertEqual(fraction(journal.own(account, unit)), own.get((account, unit), 0))
                wanted = sum(own.get((one, unit), 0) for one in CHART.accounts()
                             if one == account or one.startswith(account + "."))
                self.assertEqual(fraction(journal.balance(account, unit)), wanted)
        self.assertEqual({place: fraction(one) for place, one in journal.own_balances().items()},
                         {place: one for place, one in own.items() if one != 0})

    def test_equal(self):
        self.assertTrue(self.journal == Journal(CHART, [TOLD_ONE, TOLD_TWO, TOLD_THREE]))
        self.assertFalse(self.journal != Journal(CHART, [TOLD_ONE, TOLD_TWO, TOLD_THREE]))
        larger = Chart(CHART.accounts() + ["c"], CHART.units())
        for other in (Journal(CHART), Journal(CHART, [TWO, ONE, THREE]), Journal(CHART, [ONE, TWO]),
                      Journal(larger, [ONE, TWO, THREE]), Journal(CHART, [ONE, TWO, ONE])):
            self.assertFalse(self.journal == other)
            self.assertTrue(self.journal != other)
        for value in values_of_every_kind() + [self.journal.entries()]:
            self.assertIs(self.journal == value, False)

    def test_repr(self):
        chart = Chart(["b", "a"], ["coin"])
        self.assertEqual(repr(Journal(chart)), "Journal(Chart(['a', 'b'], ['coin']), [])")
        self.assertEqual(repr(Journal(chart, [ONE])), "Journal(Chart(['a', 'b'], ['coin']), "
                         "[[('a', 'coin', Ratio(5, 1)), ('b', 'coin', Ratio(-5, 1))]])")

    def test_what_is_passed_is_copied(self):
        entry = list(ONE)
        entries = [entry]
        journal = Journal(CHART, entries)
        more = journal + entry
        entry.clear()
        entries.clear()
        self.assertEqual(journal, Journal(CHART, [ONE]))
        self.assertEqual(more, Journal(CHART, [ONE, ONE]))

    def test_what_is_told_is_new(self):
        journal = self.journal
        self.assert_all_new(lambda: [journal.entries(), journal[0], journal[1], journal.own_balances(), journal.balances(),
                                     journal.in_one(), journal.first(2).entries(), journal.turned().entries()])
        journal.entries()[0].clear()
        journal.entries().clear()
        journal[0].clear()
        journal.own_balances().clear()
        journal.balances().clear()
        journal.in_one().clear()
        self.assert_same(journal.entries(), [TOLD_ONE, TOLD_TWO, TOLD_THREE])

    def test_not_iterated_over(self):
        with self.assertRaises(TypeError):
            list(self.journal)
        with self.assertRaises(TypeError):
            iter(self.journal)


if __name__ == "__main__":
    unittest.main()
