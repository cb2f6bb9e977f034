"""[21] and the part "lateledger/accounts.py": Chart."""

import unittest

from lateledger.accounts import Chart
from lateledger.errors import InvalidAccounts, InvalidUnits, TooMany, UnknownAccount
from tests.support import Checks, values_of_every_kind

ACCOUNTS = ["b", "a.b", "ab", "a", "a.b.c", "a.bc", "a.c", "ab.b"]
SORTED = ["a", "a.b", "a.b.c", "a.bc", "a.c", "ab", "ab.b", "b"]
WRONG_ACCOUNTS = ["", ".", "a.", ".a", "a..b", "a.b.c.d", "A", "a.B", "a b", "a.b c", "a1", "abcdefghi", "a.abcdefghi",
                  "a.b.", "a,b", "a/b", "a.b.c.", b"a", ("a",), ["a"], None, True, 0]
MANY = [first + second for first in "abcdefgh" for second in "abcdefgh"]


class ChartTest(Checks, unittest.TestCase):
    def test_told_parts(self):
        chart = Chart(ACCOUNTS, ["tea", "coin", "oil"])
        self.assert_same(chart.accounts(), SORTED)
        self.assert_same(chart.units(), ["coin", "oil", "tea"])
        self.assertEqual(len(chart), 8)

    def test_lists_and_tuples_by_position_and_by_name(self):
        chart = Chart(ACCOUNTS, ["tea", "coin"])
        self.assertEqual(chart, Chart(tuple(ACCOUNTS), ("tea", "coin")))
        self.assertEqual(chart, Chart(units=["coin", "tea"], accounts=ACCOUNTS))
        self.assertEqual(chart.head(account="a.b"), "a")
        self.assertEqual(chart.below(account="a.b"), ["a.b.c"])

    def test_names_of_accounts(self):
        for account in ("a", "abcdefgh", "coin", "hall", "outside"):
            self.assertEqual(Chart([account], ["coin"]).accounts(), [account])
        chart = Chart(["abcdefgh", "abcdefgh.abcdefgh", "abcdefgh.abcdefgh.abcdefgh"], ["coin"])
        self.assertEqual(len(chart), 3)

    def test_wrong_lists_of_accounts(self):
        for value in values_of_every_kind():
            if not isinstance(value, (list, tuple)) or not value:
                self.assert_raises(InvalidAccounts, {"position": None}, Chart, value, ["coin"])
        for value in ([], (), {"a": 1}, "a", {"a"}):
            self.assert_raises(InvalidAccounts, {"position": None}, Chart, value, ["coin"])

    def test_wrong_accounts(self):
        for value in WRONG_ACCOUNTS:
            self.assert_raises(InvalidAccounts, {"position": 0}, Chart, [value], ["coin"])
            self.assert_raises(InvalidAccounts, {"position": 2}, Chart, ["a", "a.b", value, "a", "x.y"], ["coin"])

    def test_accounts_that_stand_ahead(self):
        self.assert_raises(InvalidAccounts, {"position": 1}, Chart, ["a", "a"], ["coin"])
        self.assert_raises(InvalidAccounts, {"position": 3}, Chart, ["a", "b", "a.b", "a.b", "a"], ["coin"])

    def test_heads_that_lack(self):
        self.assert_raises(InvalidAccounts, {"position": 0}, Chart, ["a.b"], ["coin"])
        self.assert_raises(InvalidAccounts, {"position": 1}, Chart, ["a", "b.a"], ["coin"])
        self.assert_raises(InvalidAccounts, {"position": 1}, Chart, ["a", "a.b.c"], ["coin"])
        self.assert_raises(InvalidAccounts, {"position": 1}, Chart, ["ab", "a.b"], ["coin"])
        self.assert_raises(InvalidAccounts, {"position": 1}, Chart, ["a.b.c", "a.b", "b.c"], ["coin"])
        self.assertEqual(len(Chart(["a.b.c", "a.b", "a"], ["coin"])), 3)

    def test_wrong_accounts_are_ahead_of_heads_that_lack(self):
        self.assert_raises(InvalidAccounts, {"position": 2}, Chart, ["b.c", "a", "a"], ["coin"])
        self.assert_raises(InvalidAccounts, {"position": 1}, Chart, ["b.c", "A"], ["coin"])

    def test_wrong_lists_of_units(self):
        for value in values_of_every_kind():
            if not isinstance(value, (list, tuple)) or not value:
                self.assert_raises(InvalidUnits, {"position": None}, Chart, ["a"], value)
        for value in ([], (), {"coin": 1}, "coin"):
            self.assert_raises(InvalidUnits, {"position": None}, Chart, ["a"], value)

    def test_wrong_units(self):
        for value in ["", "A", "a.b", "a b", "abcdefghi", None, True, 1, ["a"], ("a",), b"a"]:
            self.assert_raises(InvalidUnits, {"position": 0}, Chart, ["a"], [value])
            self.assert_raises(InvalidUnits, {"position": 1}, Chart, ["a"], ("coin", value, value))
        self.assert_raises(InvalidUnits, {"position": 2}, Chart, ["a"], ["coin", "oil", "coin", "oil"])

    def test_all_names_may_be_units(self):
        self.assertEqual(Chart(["a"], ["outside", "hall", "coin"]).units(), ["coin", "hall", "outside"])

    def test_up_to_sixty_accounts_and_eight_units(self):
        for many in (59, 60):
            self.assertEqual(len(Chart(MANY[:many], ["coin"])), many)
        self.assertEqual(len(Chart(MANY[:60], MANY[:8]).units()), 8)
        self.assert_raises(TooMany, {"what": "accounts", "allowed": 60}, Chart, MANY[:61], ["coin"])
        self.assert_raises(TooMany, {"what": "units", "allowed": 8}, Chart, ["a"], MANY[:9])
        self.assert_raises(TooMany, {"what": "accounts", "allowed": 60}, Chart, MANY[:61], MANY[:9])

    def test_too_many_is_last(self):
        self.assert_raises(InvalidAccounts, {"position": 61}, Chart, MANY[:61] + [None], ["coin"])
        self.assert_raises(InvalidAccounts, {"position": 61}, Chart, MANY[:61] + ["x.y"], ["coin"])
        self.assert_raises(InvalidUnits, {"position": None}, Chart, MANY[:61], [])
        self.assert_raises(InvalidUnits, {"position": 9}, Chart, MANY[:61], MANY[:9] + [None])
        self.assert_raises(InvalidAccounts, {"position": None}, Chart, [], [])

    def test_heads(self):
        chart = Chart(ACCOUNTS, ["coin"])
        for account, head in (("a", None), ("ab", None), ("a.b", "a"), ("a.bc", "a"), ("a.b.c", "a.b"), ("ab.b", "ab")):
            self.assertEqual(chart.head(account), head)

    def test_below(self):
        chart = Chart(ACCOUNTS, ["coin"])
        for account, told in (("a", ["a.b", "a.b.c", "a.bc", "a.c"]), ("a.b", ["a.b.c"]), ("ab", ["ab.b"]), ("b", []),
                              ("a.b.c", []), ("a.bc", [])):
            self.assert_same(chart.below(account), told)

    def test_unknown_accounts(self):
        chart = Chart(ACCOUNTS, ["coin"])
        for value in values_of_every_kind() + ["c", "a.d", "b.b", "coin", "a.", "A", ["a"], ("a",)]:
            if value.__class__ is str and value in ("a", "a.b"):
                continue
            self.assert_keeps(UnknownAccount, value, chart.head, value)
            self.assert_keeps(UnknownAccount, value, chart.below, value)

    def test_in(self):
        chart = Chart(ACCOUNTS, ["coin", "oil"])
        for account in ACCOUNTS:
            self.assertIs(account in chart, True)
        for value in values_of_every_kind() + ["oil", "c", "abc", "a.b.d", ["a"], ("a",), "A"]:
            if not (isinstance(value, str) and value in ACCOUNTS):
                self.assertIs(value in chart, False)

    def test_equal_in_whatever_sequence(self):
        chart = Chart(ACCOUNTS, ["coin", "oil"])
        self.assertTrue(chart == Chart(ACCOUNTS[::-1], ["oil", "coin"]))
        self.assertFalse(chart != Chart(SORTED, ["oil", "coin"]))
        for other in (Chart(ACCOUNTS[1:], ["coin", "oil"]), Chart(ACCOUNTS, ["coin"]), Chart(ACCOUNTS, ["coin", "tea"]),
                      Chart(ACCOUNTS + ["c"], ["coin", "oil"])):
            self.assertFalse(chart == other)
            self.assertTrue(chart != other)
        for value in values_of_every_kind() + [ACCOUNTS, (SORTED, ["coin", "oil"])]:
            self.assertIs(chart == value, False)

    def test_repr(self):
        self.assertEqual(repr(Chart(["a.b", "a"], ["coin"])), "Chart(['a', 'a.b'], ['coin'])")
        self.assertEqual(repr(Chart(("b", "a"), ("oil", "coin"))), "Chart(['a', 'b'], ['coin', 'oil'])")

    def test_what_is_passed_and_told_is_new(self):
        accounts, units = ["a", "a.b"], ["coin"]
        chart = Chart(accounts, units)
        self.assert_same([accounts, units], [["a", "a.b"], ["coin"]])
        accounts.append("c")
        units.clear()
        self.assert_all_new(lambda: [chart.accounts(), chart.units(), chart.below("a")])
        chart.accounts().clear()
        chart.units().append("x")
        chart.below("a").clear()
        self.assertEqual(chart, Chart(["a", "a.b"], ["coin"]))
        self.assertEqual(chart.below("a"), ["a.b"])

    def test_not_iterated_over(self):
        with self.assertRaises(TypeError):
            list(Chart(["a"], ["coin"]))


if __name__ == "__main__":
    unittest.main()
