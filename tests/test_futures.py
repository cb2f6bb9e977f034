"""[61] and lateledger/futures.py."""

import unittest
from random import Random

from lateledger.errors import InvalidBundle, InvalidFutures, TooMany, UnknownFuture
from lateledger.futures import Futures
from lateledger.ratios import Ratio
from tests.pricing import some_bundle, some_futures, worth_by_sums
from tests.support import GREAT, Checks, looks_like, values_of_every_kind

TWO = Futures({"wet": {"oil": 3, "corn": 2, "tea": 0}, "dry": {"corn": 4, "oil": 1}})


class FuturesTest(Checks, unittest.TestCase):
    def test_told_parts(self):
        self.assert_same([TWO.names(), TWO.worths("wet"), TWO.worths("dry"), len(TWO)],
                         [["dry", "wet"], {"corn": 2, "oil": 3}, {"corn": 4, "oil": 1}, 2])
        self.assert_same(TWO.worth({"corn": 2, "oil": -1, "tea": 9}, "wet"), 1)
        self.assert_same(TWO.worth(bundle={}, name="dry"), 0)
        self.assert_same(TWO.all_worths(bundle={"oil": 1}), {"dry": 1, "wet": 3})
        self.assertEqual(repr(Futures({"wet": {"tea": 0}, "dry": {"corn": 4}})), "Futures({'dry': {'corn': 4}, 'wet': {}})")
        self.assertEqual(Futures(worths={"coin": {}}).names(), ["coin"])

    def test_worths_by_their_sums(self):
        source = Random(431)
        for _ in range(60):
            futures, bundle = some_futures(source), some_bundle(source)
            wanted = {name: worth_by_sums(futures, bundle, name) for name in futures.names()}
            self.assert_same(futures.all_worths(bundle), wanted)
            for name in wanted:
                self.assert_same(futures.worth(bundle, name), wanted[name])
        self.assert_same(Futures({"a": {"tea": GREAT}}).worth({"tea": -GREAT}, "a"), -GREAT * GREAT)

    def test_wrong_worths(self):
        wrong = [{"Dry": {}}, {"": {}}, {1: {}}, {"dry": {"corn": True}}, {"dry": {"coin": 1}}, {"dry": {"corn": Ratio(1)}},
                 {"dry": {}, "wet": None}, {"dry": [("corn", 1)]}, [("dry", {})], {"dry": {}, True: {}}, {"dry": {"hall": 0}}]
        for value in values_of_every_kind() + wrong:
            self.assert_keeps(InvalidFutures, value, Futures, value)
        nine = {name: {} for name in "abcdefghi"}
        self.assert_raises(TooMany, {"what": "futures", "allowed": 8}, Futures, nine)
        self.assertEqual(len(Futures({name: {} for name in "abcdefgh"})), 8)

    def test_wrong_bundles_and_names(self):
        for value in values_of_every_kind():
            self.assert_keeps(UnknownFuture, value, TWO.worths, value)
            self.assert_keeps(UnknownFuture, value, TWO.worth, {"corn": 1}, value)
            if not looks_like(value, {}, {"a": 1}, {"tea": 0}):
                self.assert_keeps(InvalidBundle, value, TWO.worth, value, "fog")
                self.assert_keeps(InvalidBundle, value, TWO.all_worths, value)
        self.assert_keeps(UnknownFuture, "fog", TWO.worths, "fog")
        for wrong in ({"coin": 1}, {"corn": True}, {"corn": Ratio(1)}, {"Corn": 1}):
            self.assert_keeps(InvalidBundle, wrong, TWO.all_worths, wrong)

    def test_equal(self):
        self.assertTrue(TWO == Futures({"dry": {"oil": 1, "corn": 4, "rye": 0}, "wet": {"corn": 2, "oil": 3}}))
        for other in (Futures({"dry": {"corn": 4, "oil": 1}}), Futures({"wet": {"oil": 3, "corn": 1}, "dry": {"corn": 4, "oil": 1}}),
                      Futures({"fog": {"oil": 3, "corn": 2}, "dry": {"corn": 4, "oil": 1}})):
            self.assertTrue(TWO != other)
        for value in values_of_every_kind():
            self.assert_bool(TWO == value, False)

    def test_it_never_changes(self):
        worths = {"dry": {"corn": 4}}
        told = Futures(worths)
        worths["dry"]["corn"] = 5
        worths.clear()
        told.worths("dry").clear()
        told.names().clear()
        self.assertEqual(repr(told), "Futures({'dry': {'corn': 4}})")
        self.assert_all_new(lambda: [TWO.names(), TWO.worths("dry"), TWO.all_worths({"oil": 1})])


if __name__ == "__main__":
    unittest.main()
