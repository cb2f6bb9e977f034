"""[2] and the part "lateledger/words.py": the plain kinds of values."""

import unittest

from lateledger.ratios import Ratio, is_number
from lateledger.words import is_bundle, is_count, is_good, is_integer, is_name
from tests.support import GREAT, Checks, values_of_every_kind


class WordsTest(Checks, unittest.TestCase):
    def assert_only(self, judge, good):
        """That the function tells True of just the good ones among values of every kind."""
        for value in values_of_every_kind():
            wanted = any(value.__class__ is one.__class__ and value == one for one in good)
            self.assert_bool(judge(value), wanted)
            self.assert_bool(judge(value=value), wanted)
        for value in good:
            self.assert_bool(judge(value), True)

    def test_is_integer(self):
        self.assert_only(is_integer, [0, 1, -1, 7, GREAT, -GREAT])

    def test_is_count(self):
        self.assert_only(is_count, [0, 1, 7, GREAT])
        self.assert_bool(is_count(-GREAT), False)

    def test_is_number(self):
        self.assert_only(is_number, [0, 1, -1, 7, GREAT, Ratio(0), Ratio(1), Ratio(1, 2), Ratio(-GREAT, GREAT - 1)])

    def test_is_name(self):
        self.assert_only(is_name, ["a", "tea", "coin", "hall", "outside", "abcdefgh", "equals", "z", "az"])
        for value in ("A", "aB", "a1", "1", "a b", " a", "a ", "a-b", "a.b", "a_b", "a\n", "\n", "`", "{", "ijklmnopq"):
            self.assert_bool(is_name(value), False)
        for letter in "abcdefghijklmnopqrstuvwxyz":
            self.assert_bool(is_name(letter * 8), True)
            self.assert_bool(is_name(letter * 9), False)

    def test_is_good(self):
        self.assert_only(is_good, ["a", "tea", "abcdefgh", "equals", "coins", "hal", "outsid"])
        for value in ("coin", "hall", "outside", "Coin", "a1", "", "ijklmnopq", ["tea"], ("tea",)):
            self.assert_bool(is_good(value), False)

    def test_is_bundle(self):
        self.assert_only(is_bundle, [{}, {"a": 1}, {"tea": 0}, {"tea": -GREAT, "oil": GREAT, "a": 0}])

    def test_no_bundles(self):
        for value in ({"coin": 1}, {"hall": 1}, {"outside": 0}, {"tea": 1, "coin": 1}, {"tea": True}, {"tea": False},
                      {"tea": None}, {"tea": Ratio(1)}, {"tea": "1"}, {"tea": [1]}, {"tea": 1, "oil": True}, {1: 1},
                      {True: 1}, {None: 1}, {("tea",): 1}, {"Tea": 1}, {"": 1}, {"ijklmnopq": 1}, {"a.b": 1},
                      [("tea", 1)], (), "tea", [], {"tea"}):
            self.assert_bool(is_bundle(value), False)

    def test_many_goods_are_a_bundle(self):
        self.assert_bool(is_bundle({"a" * many: many for many in range(1, 9)}), True)


if __name__ == "__main__":
    unittest.main()
