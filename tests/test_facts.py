"""[71], [72] and lateledger/facts.py."""

import unittest
from itertools import permutations
from random import Random

from lateledger.facts import counting, in_force, is_fact
from lateledger.ratios import Ratio
from tests.late import GOODS, HOUSES, counting_by_rule, in_force_by_rule, some_fact, some_facts
from tests.support import GREAT, Checks, strange_keys, strange_values, values_of_every_kind

TOWN = (["ann", "ben"], ["corn", "oil"], 3)
FACTS = [
    ("a", 1, "transfer", "ann", "oil", 3), ("b", 3, "transfer", "ben", "coin", -1), ("c", 2, "order", "ben", {"oil": 1}, 5, 2),
    ("d", 2, "order", "ann", {"oil": -1, "corn": 0}, -4, 1), ("e", 1, "line", "ann", "ben", 0, 0),
    ("f", 1, "line", "ben", "ann", 7, 1000), ("g", 2, "move", "oil", None, -3), ("h", 2, "move", None, "corn", 0),
    ("i", 2, "move", "corn", "oil", 3), ("j", 3, "future", "dry", {"oil": 1, "corn": 0}), ("k", 3, "quote", {"oil": -2}, None, 0),
    ("l", 3, "quote", {"oil": -2, "corn": 5}, -7, None), ("m", 3, "quote", {"corn": 5}, 3, 2), ("n", "strike", "a"),
    ("abcdefgh", "strike", "zzzzzzzz"),
]
# Values that stand in no fact at all; in a place of numbers, of names, of bundles all but those of its kind are wrong.
NO_NUMBERS = [None, True, False, "1", "", (), [], {}, Ratio(1), Ratio(1, 2), object()]


class FactsTest(Checks, unittest.TestCase):
    def is_fact(self, value):
        told = is_fact(value, *TOWN)
        self.assertIsInstance(told, bool)
        return told

    def wrong(self, *values):
        for value in values:
            self.assert_bool(is_fact(value, *TOWN), False)

    def test_facts(self):
        for fact in FACTS:
            self.assertTrue(self.is_fact(fact), fact)
            self.assertTrue(is_fact(fact, tuple(TOWN[0]), tuple(TOWN[1]), days=3))
        source = Random(711)
        for _ in range(300):
            fact = some_fact(source, HOUSES, GOODS, 4, "a")
            self.assert_bool(is_fact(fact, HOUSES, GOODS, 4), True)

    def test_a_part_too_many_or_too_few_or_a_list(self):
        for fact in FACTS:
            self.wrong(list(fact), fact[:-1], fact[1:], (*fact, 1), (*fact, None), (fact,), [fact])
        self.wrong((), ("a",), ("a", 1), ("a", 1, "transfer"), ("a", "strike"), ("a", "strike", "b", "c"))

    def test_each_part_of_another_kind(self):
        for fact in FACTS:
            for at in range(len(fact)):
                for value in values_of_every_kind():
                    other = (*fact[:at], value, *fact[at + 1:])
                    if isinstance(value, (list, tuple)) or value.__class__ in (bool, bytes, object, type, Ratio):
                        self.wrong(other)
                    if not isinstance(value, str) and isinstance(fact[at], str) and value is not None:
                        self.wrong(other)
                    if isinstance(fact[at], int) and not isinstance(value, int) and value is not None:
                        self.wrong(other)
                    if isinstance(fact[at], dict) and not isinstance(value, dict):
                        self.wrong(other)

    def test_strange_parts(self):
        for fact in FACTS:
            for at, part in enumerate(fact):
                words = [part] if isinstance(part, str) else []
                for value in strange_values(*words):
                    self.wrong((*fact[:at], value, *fact[at + 1:]))
        for key in strange_keys("oil"):
            self.wrong(("c", 2, "order", "ben", {key: 1}, 5, 2), ("j", 3, "future", "dry", {"corn": 1, key: 1}))
        for value in values_of_every_kind():
            self.wrong(value)

    def test_true_for_one(self):
        self.wrong(("a", True, "transfer", "ann", "oil", 3), ("a", 1, "transfer", "ann", "oil", True),
                   ("c", 2, "order", "ben", {"oil": True}, 5, 2), ("c", 2, "order", "ben", {"oil": 1}, True, 2),
                   ("c", 2, "order", "ben", {"oil": 1, "corn": False}, 5, 2), ("c", 2, "order", "ben", {"oil": 1}, 5, True),
                   ("e", 1, "line", "ann", "ben", True, 0), ("e", 1, "line", "ann", "ben", 0, False),
                   ("g", 2, "move", "oil", None, True), ("j", 3, "future", "dry", {"oil": True}),
                   ("k", 3, "quote", {"oil": -2}, True, 0), ("k", 3, "quote", {"oil": -2}, None, False))

    def test_ids_and_days(self):
        for key in ("", "A", "abcdefghi", "a.b", "a b", None, 1):
            self.wrong((key, 1, "transfer", "ann", "oil", 3), (key, "strike", "a"), ("a", "strike", key))
        for day in (0, -1, 4, GREAT, None, "1"):
            self.wrong(("a", day, "transfer", "ann", "oil", 3), ("j", day, "future", "dry", {"oil": 1}))
        for key in ("coin", "hall", "outside", "ann", "oil", "strike"):
            self.assertTrue(self.is_fact((key, 1, "transfer", "ann", "oil", 3)))
            self.assertTrue(self.is_fact((key, "strike", "x")))
            self.assertTrue(self.is_fact(("j", 3, "future", key, {"oil": 1})))
        self.wrong(("a", "strike", "a"), ("a", 1, "strike", "b"), ("a", 1, "b"), ("a", "strikes", "b"))
        self.wrong(("j", 3, "future", "Dry", {"oil": 1}), ("j", 3, "future", None, {"oil": 1}))

    def test_words(self):
        for word in ("Transfer", "transfers", "", "strike", "close", None, 1, ("transfer",)):
            self.wrong(("a", 1, word, "ann", "oil", 3), ("c", 2, word, "ben", {"oil": 1}, 5, 2))

    def test_houses_and_goods_are_those_of_the_run(self):
        for house in ("cy", "oil", "coin", "hall", "outside", "ANN", "", None, 1, ["ann"], ("ann",)):
            self.wrong(("a", 1, "transfer", house, "oil", 3), ("c", 2, "order", house, {"oil": 1}, 5, 2),
                       ("e", 1, "line", house, "ben", 0, 0), ("e", 1, "line", "ben", house, 0, 0))
        for good in ("tea", "ann", "hall", "outside", "Oil", "", None, 1, ["oil"], ("oil",)):
            self.wrong(("a", 1, "transfer", "ann", good, 3))
        for good in ("tea", "ann", "coin", "hall", "Oil", "", 1, ["oil"], ("oil",)):
            self.wrong(("g", 2, "move", good, "oil", 1), ("g", 2, "move", None, good, 1))
        for good in ("tea", "ann", "coin", "hall", "outside", "Oil", "", None, 1, ("oil",)):
            for number in (0, 1):
                for bundle in ({good: number, "oil": 1}, {good: number}):
                    self.wrong(("c", 2, "order", "ben", bundle, 5, 2), ("j", 3, "future", "dry", bundle),
                               ("k", 3, "quote", bundle, None, 0))

    def test_edges_of_numbers(self):
        self.wrong(("a", 1, "transfer", "ann", "oil", 0), ("a", 1, "transfer", "ann", "coin", 0))
        for most in (0, -1):
            self.wrong(("c", 2, "order", "ben", {"oil": 1}, 5, most))
        self.wrong(("e", 1, "line", "ann", "ben", -1, 0), ("e", 1, "line", "ann", "ben", 0, -1),
                   ("e", 1, "line", "ann", "ben", 0, 1001), ("e", 1, "line", "ann", "ann", 0, 0))
        self.assertTrue(self.is_fact(("e", 1, "line", "ann", "ben", GREAT, 1000)))
        self.wrong(("g", 2, "move", None, None, 1), ("g", 2, "move", "oil", "oil", 1))
        for bundle in ({}, {"oil": 0}, {"oil": 0, "corn": 0}, [("oil", 1)], None):
            self.wrong(("c", 2, "order", "ben", bundle, 5, 2), ("j", 3, "future", "dry", bundle), ("k", 3, "quote", bundle, None, 0))
        self.wrong(("k", 3, "quote", {"oil": 1}, None, None))
        for number in NO_NUMBERS:
            bundle = {"oil": number, "corn": 1}
            self.wrong(("a", 1, "transfer", "ann", "oil", number), ("c", 2, "order", "ben", {"oil": 1}, number, 2),
                       ("c", 2, "order", "ben", {"oil": 1}, 5, number), ("e", 1, "line", "ann", "ben", number, 0),
                       ("e", 1, "line", "ann", "ben", 0, number), ("g", 2, "move", "oil", None, number),
                       ("c", 2, "order", "ben", bundle, 5, 2), ("j", 3, "future", "dry", bundle))
            if number is not None:
                self.wrong(("k", 3, "quote", {"oil": 1}, number, 0), ("k", 3, "quote", {"oil": 1}, 0, number))

    def test_counting(self):
        strikings = [("s", "strike", "a"), ("t", "strike", "s"), ("u", "strike", "nobody"), ("v", "strike", "v1")]
        kept = ("b", 2, "order", "ben", {"oil": 0, "corn": 2}, 5, 2)
        for facts in permutations(strikings[:3] + [("a", 1, "transfer", "ann", "oil", 3), kept]):
            # The striking of a counts though another one names it, and whenever it came.
            self.assert_same(counting(list(facts)), [("b", 2, "order", "ben", {"corn": 2}, 5, 2)])
        self.assert_same(counting([]), [])
        self.assert_same(counting((("t", "strike", "s"),)), [])
        source = Random(712)
        for _ in range(150):
            facts = some_facts(source, HOUSES, GOODS, 4)
            self.assert_same(counting(facts=facts), counting_by_rule(facts))
        bundle = {"tea": 1, "oil": 0, "corn": -1}
        self.assert_all_new(lambda: counting([("a", 1, "order", "ann", bundle, 1, 1), ("b", 1, "quote", bundle, 1, 1)]))
        self.assertEqual(list(bundle), ["tea", "oil", "corn"])
        counting([("a", 1, "order", "ann", bundle, 1, 1)])[0][4].clear()
        self.assertEqual(len(bundle), 3)

    def test_in_force(self):
        facts = [("b", 2, "line", "ann", "ben", 5, 0), ("a", 2, "line", "ann", "ben", 4, 0), ("c", 1, "line", "ann", "ben", 3, 0),
                 ("d", 1, "line", "ben", "ann", 2, 1), ("z", 3, "line", "ann", "ben", 9, 0), ("s", "strike", "z"),
                 ("m", 1, "move", "oil", None, 1), ("k", 1, "move", None, "oil", 2), ("l", 2, "move", "oil", None, 7),
                 ("j", 1, "move", "corn", "oil", 2), ("i", 1, "move", "corn", None, 2), ("o", 1, "transfer", "ann", "oil", 1)]
        self.assert_same(in_force(facts, 1), (
            [("ann", "ben", 3, 0), ("ben", "ann", 2, 1)],
            [(None, "oil", 2), ("corn", None, 2), ("corn", "oil", 2), ("oil", None, 1)]))
        for day in (2, 3, 12):
            told = in_force(facts, day)
            self.assert_same(told[0], [("ann", "ben", 5, 0), ("ben", "ann", 2, 1)])
            self.assert_same(told[1][-1], ("oil", None, 7))
        self.assert_same(in_force([], day=1), ([], []))
        source = Random(713)
        for _ in range(150):
            facts = [some_fact(source, HOUSES[:3], GOODS[:2], 4, key, source.choice(["line", "move", "move", "strike"]))
                     for key in source.sample(["a", "b", "c", "d", "e", "f", "g", "h", "ab", "ba"], 9)]
            for day in range(1, 6):
                self.assert_same(in_force(tuple(facts), day), in_force_by_rule(facts, day))
        self.assert_all_new(lambda: in_force(facts, 2))


if __name__ == "__main__":
    unittest.main()
