"""[92] and lateledger/claims.py."""

import unittest
from random import Random

from lateledger.accounts import Chart
from lateledger.best import outcome, worth
from lateledger.claims import is_claim, is_paper, is_true, paper_of
from lateledger.cover import cover
from lateledger.faults import InvalidClaim
from lateledger.fills import greatest_gain
from lateledger.futures import Futures
from lateledger.lines import Clearing
from lateledger.moves import Moves
from lateledger.nets import least_cost
from lateledger.orders import Order, Round
from lateledger.quotes import are_fair
from lateledger.ratios import Ratio
from lateledger.spans import cover_cost
from lateledger.systems import System
from tests import papers
from tests.books import some_chart, some_report, some_reports
from tests.papers import bent, is_paper_by_sums
from tests.support import Checks, all_containers, all_numbers, looks_like, strange_keys, strange_values, values_of_every_kind

SYSTEM = System([(0, 5), (0, None)], [([1, 1], "at most", 7)])
CHART = Chart(["a", "a.b", "c"], ["coin"])
KEPT = {"p": {("a", "coin"): 1}, "q": {("c", "coin"): 2}}
REPORT = {("c", "coin"): 1}
DEALS = Round({"x": Order("a", {"tea": -1}, -4, 3), "y": Order("b", {"tea": 1}, 7, 2)})
CLEARING = Clearing({"a": 4, "b": -3, "c": -1}, [("a", "c", 2, 0), ("a", "b", 3, 1)])
MOVES = Moves(["x", "y"], [("x", None, 2), (None, "x", 3), ("y", "x", 1)])
FUTURES = Futures({"dry": {"corn": 4, "oil": 1}, "wet": {"corn": 2, "oil": 3}})
QUOTES = [({"corn": 1}, 2, 3), ({"oil": 1}, None, 2)]
FACT = ("a", 1, "transfer", "ann", "oil", 3)
RUN = (["ann", "ben"], ["oil"], 2)
CLAIMS = [
    ("solved", SYSTEM), ("barred", SYSTEM), ("best", SYSTEM, [[1, 0], [0, 1]], (5, Ratio(2))), ("way", SYSTEM, [[1, 1]]),
    ("told", CHART, KEPT, REPORT), ("apart", CHART, KEPT, REPORT), ("stand", CHART, KEPT, {"p": 1, "q": -2}),
    ("off", CHART, KEPT, {"p": Ratio(1, 2), "q": 0}), ("gain", DEALS, 6), ("paid", CLEARING), ("held", CLEARING), ("cost", CLEARING, Ratio(3)),
    ("move", MOVES), ("ring", MOVES), ("cover", MOVES, {"x": 1}, 3), ("family", MOVES, {"y": Ratio(1)}), ("fair", FUTURES, QUOTES),
    ("sure", FUTURES, QUOTES), ("end", FUTURES, QUOTES, {"corn": 1}, 3), ("open", FUTURES, QUOTES, {"rye": 1}),
    ("alike", *RUN, [FACT], [FACT]), ("unlike", *RUN, [FACT], []),
]


def groups(source):
    """Contrary claims, of which just one is true; with numbers, of which some are near to the right one."""
    kind = source.randint(0, 9)
    near = [0, 0, 1, -1, Ratio(1, 2)]
    if kind == 0:
        system = papers.some_system(source)
        yield [("solved", system), ("barred", system)]
        aims = papers.some_aims(source, len(system))
        found = outcome(system, aims)
        most = worth(system, aims) if found == "best" else tuple(Ratio(0) for _ in aims)
        yield [("best", system, aims, most), ("way", system, aims), ("barred", system)]
        yield [("best", system, aims, (most[0] + 1, *most[1:]))]
    elif kind <= 2:
        chart = some_chart(source)
        kept, report = some_reports(source, chart), some_report(source, chart)
        yield [("told", chart, kept, report), ("apart", chart, kept, report)]
        numbers = {name: source.choice([source.randint(-2, 2), Ratio(source.randint(-3, 3), 2)]) for name in kept}
        yield [("stand", chart, kept, numbers), ("off", chart, kept, numbers)]
        yield [("stand", chart, kept, {name: 0 for name in kept}), ("off", chart, kept, {name: 0 for name in kept})]
    elif kind == 3:
        deals = papers.some_round(source)
        yield [("gain", deals, greatest_gain(deals) + source.choice(near)), ("gain", deals, greatest_gain(deals) + 2)]
    elif kind <= 5:
        clearing = papers.some_clearing(source, bottom=source.choice([1, 2]))
        yield [("paid", clearing), ("held", clearing)]
        yield [("cost", clearing, least_cost(clearing) + source.choice(near)), ("cost", clearing, least_cost(clearing) + 2)]
    elif kind <= 7:
        moves = papers.some_moves(source)
        holdings = papers.some_holdings(source, moves.goods())
        yield [("move", moves), ("ring", moves)]
        try:
            number = cover(moves, holdings)
        except RuntimeError:
            number = Ratio(0)
        yield [("cover", moves, holdings, number), ("family", moves, holdings), ("ring", moves)]
        yield [("cover", moves, holdings, number + 1)]
    elif kind == 8:
        futures = papers.some_futures(source)
        quotes, bundle = papers.some_quotes(source, futures), papers.some_bundle(source)
        yield [("fair", futures, quotes), ("sure", futures, quotes)]
        high = cover_cost(futures, quotes, bundle) if are_fair(futures, quotes) else None
        number = Ratio(0) if high is None else high
        yield [("end", futures, quotes, bundle, number), ("open", futures, quotes, bundle), ("sure", futures, quotes)]
        yield [("end", futures, quotes, bundle, number + 1)]
    else:
        yield papers.some_run_claims(source)


class ClaimsTest(Checks, unittest.TestCase):
    def test_contrary_claims(self):
        source = Random(921)
        words = {}
        for _ in range(260):
            for claims in groups(source):
                true = [claim for claim in claims if is_true(claim)]
                if len(claims) > 1 and claims[0][0] not in ("gain", "cost"):
                    self.assertEqual(len(true), 1, claims)
                for claim in claims:
                    self.check_claim(source, claim, words)
        self.assertEqual(sorted(words), sorted(papers.JUDGES))
        self.assertGreater(min(words.values()), 4, words)

    def check_claim(self, source, claim, words):
        self.assert_bool(is_claim(value=claim), True)
        told = paper_of(claim=claim)
        self.assert_bool(is_true(claim=claim), told is not None)
        if told is None:
            return
        words[claim[0]] = words.get(claim[0], 0) + 1
        self.assert_bool(is_paper(claim=claim, value=told), True)
        self.assertTrue(is_paper_by_sums(claim, told), claim)
        self.assert_same(paper_of(claim), told)
        self.check_kinds(claim[0], told)
        # Papers of a claim that is true are none of one that is not.
        others = bent(told)
        for other in source.sample(others, min(25, len(others))):
            self.assert_bool(is_paper(claim, other), is_paper_by_sums(claim, other))

    def check_kinds(self, word, told):
        """Numbers are Ratios, but for the places and amounts that are INTEGERS."""
        kinds = {number.__class__ for number in all_numbers(told)}
        if word in ("ring", "unlike", "apart"):
            self.assertEqual(kinds, {int})
        else:
            self.assertLessEqual(kinds, {Ratio, bool} if word == "alike" else {Ratio})
        found = all_containers(told)
        self.assertEqual(len({id(part) for part in found}), len(found))

    def test_papers_of_others(self):
        source = Random(922)
        for _ in range(60):
            for claims in groups(source):
                told = [paper_of(claim) for claim in claims]
                for claim in claims:
                    for paper in told:
                        if paper is not None:
                            self.assert_bool(is_paper(claim, paper), is_paper_by_sums(claim, paper))

    def test_small_bent_papers(self):
        for claim in CLAIMS:
            told = paper_of(claim)
            if told is None:
                continue
            for other in bent(told) + [part for some in bent(told)[:40] for part in bent(some)[:10]]:
                self.assert_bool(is_paper(claim, other), is_paper_by_sums(claim, other))

    def test_values_of_every_kind_as_papers(self):
        for claim in CLAIMS:
            for value in values_of_every_kind() + strange_values("a", "x", "dry"):
                self.assert_bool(is_paper(claim, value), claim[0] == "solved" and looks_like(value, (1, 2)))
        zero = ("stand", CHART, KEPT, {"p": 0, "q": 0})
        for value in ([], ()):
            self.assert_bool(is_paper(zero, value), True)
        self.assert_bool(is_paper(("told", CHART, {}, {}), {}), True)
        for key in strange_keys("x"):
            self.assert_bool(is_paper(("move", MOVES), {key: 0, "y": 0}), False)
        alike = ("alike", *RUN, [FACT], [FACT])
        self.assertEqual(paper_of(alike)[0], {("ann.goods", "oil"): Ratio(3), ("outside", "oil"): Ratio(-3)})
        for key in strange_keys("in", 1, ("ann.goods", "oil")):
            told = [{key: Ratio(3), ("outside", "oil"): Ratio(-3)}] + paper_of(alike)[1:]
            self.assert_bool(is_paper(alike, told), False)

    def test_no_claims(self):
        for value in values_of_every_kind() + strange_values("paid"):
            self.check_no_claim(value)
            for claim in CLAIMS:
                self.check_no_claim((value, *claim[1:]))
        for claim in CLAIMS:
            for wrong in (claim[:-1], (*claim, 1), (*claim, None), list(claim), claim[1:], (claim,), (claim[0] + "s", *claim[1:]),
                          (claim[0].upper(), *claim[1:])):
                if not (wrong[:1] == ("end",) and len(wrong) == 5):
                    self.check_no_claim(wrong)
        self.check_no_claim(())

    def check_no_claim(self, value):
        self.assert_bool(is_claim(value), False)
        for call in (is_true, paper_of, lambda one: is_paper(one, [])):
            self.assert_keeps(InvalidClaim, value, call, value)

    def test_parts_of_other_kinds(self):
        for claim in CLAIMS:
            self.assert_bool(is_claim(claim), True)
            for at in range(1, len(claim)):
                for value in values_of_every_kind():
                    if value.__class__ is not claim[at].__class__ and not (
                            isinstance(value, (int, Ratio)) and isinstance(claim[at], (int, Ratio)) and not isinstance(value, bool)
                            and not isinstance(claim[at], list)) and not (isinstance(value, tuple) and isinstance(claim[at], list)):
                        self.check_no_claim((*claim[:at], value, *claim[at + 1:]))

    def test_parts_that_are_not_let(self):
        nine = {name: {} for name in "abcdefghijklm"}
        for wrong in (
                ("best", SYSTEM, [[1, 0]], [5]), ("best", SYSTEM, [[1, 0]], (5, 2)), ("best", SYSTEM, [[1, 0]], (True,)),
                ("best", SYSTEM, [[1]], (5,)), ("best", SYSTEM, [], ()), ("best", SYSTEM, [[1, 0]] * 5, (5,) * 5), ("way", SYSTEM, []),
                ("way", SYSTEM, [[1, None]]), ("way", SYSTEM, [[1, 0]] * 5), ("told", CHART, KEPT, {("d", "coin"): 1}),
                ("told", CHART, KEPT, {("c", "oil"): 1}), ("told", CHART, KEPT, {("c", "coin"): True}), ("told", CHART, {"P": {}}, REPORT),
                ("apart", CHART, {"p": {("d", "coin"): 1}}, REPORT), ("told", CHART, nine, REPORT), ("apart", CHART, nine, REPORT),
                ("stand", CHART, KEPT, {"p": 1}), ("off", CHART, KEPT, {"p": 1, "q": None}), ("off", CHART, KEPT, {"p": 1, "q": 1, "r": 1}),
                ("stand", CHART, nine, {name: 0 for name in nine}), ("stand", CHART, KEPT, {"p": True, "q": 0}), ("gain", DEALS, "6"),
                ("cost", CLEARING, None), ("cover", MOVES, {"z": 1}, 3), ("cover", MOVES, {"x": True}, 3), ("family", MOVES, {"z": 1}),
                ("cover", MOVES, {"x": 1}, False), ("fair", FUTURES, QUOTES * 5), ("sure", FUTURES, QUOTES * 5), ("fair", FUTURES, [QUOTES[0], 1]),
                ("fair", FUTURES, [({"coin": 1}, 1, 1)]), ("end", FUTURES, QUOTES * 5, {}, 0), ("open", FUTURES, QUOTES * 5, {}),
                ("end", FUTURES, QUOTES, {"coin": 1}, 3), ("open", FUTURES, QUOTES, {"corn": Ratio(1)}), ("end", FUTURES, QUOTES, {}, None)):
            self.check_no_claim(wrong)
        for word in ("alike", "unlike"):
            for houses, goods, days, facts in (
                    (["ann", "ann"], ["oil"], 2, []), ([], ["oil"], 2, []), (["coin"], ["oil"], 2, []), (list("abcdefghi"), ["oil"], 2, []),
                    (["ann"], ["ann"], 2, []), (["ann"], [], 2, []), (["ann"], list("bcdef"), 2, []), (["ann"], ["oil"], 0, []),
                    (["ann"], ["oil"], 13, []), (["ann"], ["oil"], True, []), (["ann"], ["oil"], 2, [FACT, None]),
                    (["ann"], ["oil"], 2, [("a", 3, *FACT[2:])]), (["ann"], ["oil"], 2, [FACT, ("a", "strike", "b")]),
                    (["ann"], ["oil"], 2, [(chr(97 + at), 1, "order", "ann", {"oil": 1}, 1, 1) for at in range(13)]),
                    (["ann"], ["oil"], 2, [(a + b, "strike", "zz") for a in "abcdefghijk" for b in "abcdefghij"][:101])):
                self.check_no_claim((word, houses, goods, days, facts, []))
                self.check_no_claim((word, houses, goods, days, [], facts))
        self.assert_bool(is_claim(("fair", FUTURES, tuple(QUOTES * 4))), True)
        self.assert_bool(is_claim(("alike", ("ann",), ("oil",), 12, (FACT, FACT), ())), True)
        self.assert_bool(is_claim(("end", FUTURES, [], {}, Ratio(0))), True)

    def test_numbers_by_their_worth(self):
        for one, other in ((("best", SYSTEM, [[1, 0], [0, 1]], (5, 2)), ("best", SYSTEM, [[1, 0], [0, 1]], (Ratio(5), Ratio(2)))),
                           (("gain", DEALS, 6), ("gain", DEALS, Ratio(6))), (("cost", CLEARING, 3), ("cost", CLEARING, Ratio(3))),
                           (("cover", MOVES, {"x": 1}, 3), ("cover", MOVES, {"x": Ratio(1)}, Ratio(3))),
                           (("end", FUTURES, QUOTES, {"corn": 1}, 3), ("end", FUTURES, QUOTES, {"corn": 1}, Ratio(3)))):
            for claim in (one, other):
                self.assert_bool(is_true(claim), True)
                self.assert_bool(is_paper(claim, paper_of(one)), True)
        whole = ("alike", *RUN, [FACT], [FACT])
        told = [self.with_integers(part) for part in paper_of(whole)]
        self.assert_bool(is_paper(whole, told), True)
        self.assert_bool(is_paper(whole, tuple(told)), True)
        self.assert_bool(is_paper(whole, [1 if part is True else part for part in told]), False)
        self.assert_bool(is_paper(whole, told[:-1]), False)
        self.assert_bool(is_paper(("unlike", *RUN, [FACT], []), (Ratio(1), "in")), False)

    def with_integers(self, value):
        if isinstance(value, Ratio) and value.is_whole:
            return value.top
        if isinstance(value, tuple):
            return tuple(self.with_integers(part) for part in value)
        return {key: self.with_integers(part) for key, part in reversed(value.items())} if isinstance(value, dict) else value

    def test_runs_that_are_alike(self):
        order = ("o", 2, "order", "ben", {"oil": 1}, 5, 2)
        facts = [FACT, order, ("s", "strike", "x")]
        for others, word in ((facts[::-1], "alike"), (facts[:2], "alike"), (facts + facts, "alike"), (facts[1:], "unlike"),
                             (facts + [("t", "strike", "a")], "unlike"), (facts + [("t", "strike", "s")], "alike"),
                             (facts + [("t", 2, "quote", {"oil": 1}, 1, None)], "alike"), (facts + [("t", 1, "line", "ann", "ben", 0, 0)], "unlike"),
                             ([FACT, (*order[:5], 6, 2)], "unlike"), ([FACT, ("o", 2, "order", "ben", {"oil": 1}, 5, 9)], "alike"),
                             ([FACT, ("p", *order[1:])], "unlike")):
            claims = {kind: (kind, *RUN, facts, others) for kind in ("alike", "unlike")}
            self.assert_bool(is_true(claims[word]), True)
            self.assert_bool(is_true(claims["unlike" if word == "alike" else "alike"]), False)
            self.assertIsNone(paper_of(claims["unlike" if word == "alike" else "alike"]))
            for claim in claims.values():
                self.assert_bool(is_true((claim[0], *RUN, others, facts)), is_true(claim))
        claim = ("unlike", *RUN, [FACT], [FACT, order])
        found = [(day, word) for day in (1, 2) for word in papers.WORDS if is_paper(claim, (day, word))]
        self.assertEqual(found, [(2, "round")])
        self.assert_same(paper_of(claim), (2, "round"))
        for wrong in ((2, "rounds"), (0, "round"), (3, "round"), (True, "in"), ["2", "round"], (2, "round", 1), (2,), [2, "round"], (2, None),
                      *[(2, word) for word in strange_values("round")], *[(day, "round") for day in strange_values(2)]):
            self.assert_bool(is_paper(claim, wrong), False)

    def test_papers_of_alike_runs_are_none_of_others(self):
        facts = [("m", 1, "transfer", "ann", "oil", 1), FACT]
        alike = ("alike", *RUN, facts, facts)
        told = paper_of(alike)
        self.assertEqual(told[5], {"ann": "endless", "ben": Ratio(0)})
        for others in ([FACT], [], facts + [("t", 2, "order", "ann", {"oil": 1}, 1, 1)]):
            for claim in (("alike", *RUN, facts, others), ("alike", *RUN, others, facts)):
                self.assert_bool(is_paper(claim, told), False)
        for word in strange_values("endless") + ["ring", "", None, True, 0, Ratio(0)]:
            for other in ({"ann": word, "ben": 0}, {"ann": word, "ben": Ratio(0)}):
                self.assert_bool(is_paper(alike, told[:5] + [other] + told[6:]), False)
        self.assert_bool(is_paper(alike, told[:5] + [{"ben": 0, "ann": "endless"}] + told[6:]), True)

    def test_journals_of_at_most_one_entry(self):
        zero, one = ("stand", CHART, KEPT, {"p": 0, "q": 0}), ("stand", CHART, KEPT, {"p": 1, "q": -2})
        entry, back = ([("a", "coin", sign), ("c", "coin", -sign)] for sign in (1, -1))
        self.assert_bool(is_paper(one, [entry]), True)
        self.assert_bool(is_paper(one, (tuple(entry),)), True)
        self.assert_bool(is_paper(zero, [entry, back]), False)
        self.assert_bool(is_paper(one, [entry, entry, back]), False)
        self.assert_bool(is_paper(one, entry), False)

    def test_twelve_and_thirteen_kept_reports(self):
        kept = {name: {} for name in "abcdefghijklm"}
        for many in (12, 13):
            some = {name: kept[name] for name in sorted(kept)[:many]}
            for claim in (("told", CHART, some, {}), ("apart", CHART, some, {}), ("stand", CHART, some, {name: 0 for name in some}),
                          ("off", CHART, some, {name: 1 for name in some})):
                self.assert_bool(is_claim(claim), many == 12)


if __name__ == "__main__":
    unittest.main()
