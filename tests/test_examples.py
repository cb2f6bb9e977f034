"""The examples of the document, word for word, as far as their files have landed."""

import doctest
import unittest
from pathlib import Path

BEST = """
>>> from lateledger.systems import System
>>> from lateledger.best import bar, first, is_bar, worth
>>> two = System([(0, None), (0, 5)], [([1, 1], "at most", 7), ([1, -1], "equals", 1)])
>>> [first(two, [[1, 1]]), worth(two, [[0, 1], [1, 0]]), two.does_solve([3, 2])]
[[Ratio(4, 1), Ratio(3, 1)], (Ratio(3, 1), Ratio(4, 1)), True]
>>> none = two + ([0, 1], "at most", -1)
>>> [bar(two), is_bar(none, ([0, 0, 1], [0, 1], [0, 0]))]
[None, True]
"""

BOOKS = """
>>> from lateledger.accounts import Chart
>>> from lateledger.journals import Journal
>>> from lateledger.ratios import Ratio
>>> from lateledger.reports import are_weights, cheapest_set, difference, is_told, least_sets, value
>>> from lateledger.wholes import do_stand, do_stand_whole, is_whole_bar
>>> chart = Chart(["anna", "anna.coin", "ben", "hall"], ["coin"])
>>> books = Journal(chart, [[("anna.coin", "coin", 5), ("ben", "coin", -5)], [("ben", "coin", 2), ("hall", "coin", -2)]])
>>> kept, rest = {"a": {("anna", "coin"): 1}, "b": {("ben", "coin"): 2}}, {("hall", "coin"): 1}
>>> [books.balance("anna", "coin") == Ratio(5), value(books, kept["b"]) == Ratio(-6), value(books, rest) == Ratio(-2)]
[True, True, True]
>>> [are_weights(chart, kept, rest, {"a": -1, "b": Ratio(-1, 2)}), is_told(chart, {"b": kept["b"]}, rest)]
[True, False]
>>> some = {"x": {("anna", "coin"): 1}, "y": {("ben", "coin"): 1}, "z": rest}
>>> [least_sets(chart, some), cheapest_set(chart, some, {"x": 3, "y": 1, "z": 2})]
[[['x', 'y'], ['x', 'z'], ['y', 'z']], ['y', 'z']]
>>> [do_stand(chart, kept, {"a": 1, "b": 1}), do_stand_whole(chart, kept, {"a": 1, "b": 1})]
[True, False]
>>> is_whole_bar(chart, kept, {"a": 1, "b": 1}, {"b": Ratio(1, 2)})
True
"""

ROUNDS = """
>>> from lateledger.orders import Order, Round
>>> from lateledger.fills import brings, first_fills, greatest_gain
>>> from lateledger.rounds import price_span, told_prices, trades
>>> deals = Round({"x": Order("a", {"tea": -1}, -4, 3), "y": Order("b", {"tea": 1}, 7, 2), "z": Order("c", {"tea": 1}, 9, 1)})
>>> [first_fills(deals), told_prices(deals), price_span(deals, "tea"), greatest_gain(deals), brings(deals, ["z"])]
[{'x': Ratio(3, 1), 'y': Ratio(2, 1), 'z': Ratio(1, 1)}, {'tea': Ratio(4, 1)}, (Ratio(4, 1), Ratio(7, 1)), Ratio(11, 1), Ratio(5, 1)]
>>> trades(deals, {"x": 1, "y": 0, "z": 1}, {"tea": 6})
[('x', 'a', {'tea': Ratio(-1, 1)}, Ratio(-6, 1)), ('z', 'c', {'tea': Ratio(1, 1)}, Ratio(6, 1))]
"""

CLEARINGS = """
>>> from lateledger.flows import bound, fewest_set, greatest_volume, narrow, needless
>>> from lateledger.lines import Clearing, rest
>>> from lateledger.nets import first, line_more, spans
>>> hall = Clearing({"a": 4, "b": -3, "c": -1}, [("a", "c", 2, 0), ("a", "b", 2, 1)])
>>> [hall.lines(), greatest_volume(hall), fewest_set(hall), narrow(hall), bound(hall, ["a"])]
[[('a', 'b', 2, 1), ('a', 'c', 2, 0)], Ratio(3, 1), ['a', 'c'], [('a', 'b'), ('c', 'b')], Ratio(4, 1)]
>>> [first(hall), rest(hall, first(hall))["b"], line_more(hall, ("c", "b", 3, 2)), needless(hall), spans(hall)[0]]
[[Ratio(2, 1), Ratio(1, 1)], Ratio(-1, 1), (Ratio(1, 1), Ratio(4, 1)), [], (Ratio(2, 1), Ratio(2, 1))]
"""

COVERS = """
>>> from lateledger.cover import cover, is_cover_paper, outcome, tightened_covers, worst_move
>>> from lateledger.moves import Moves, ring, tightest
>>> from lateledger.shares import overpaying, saved
>>> moves = Moves(["x", "y"], [("x", None, 2), (None, "x", 3), ("y", "x", 1), ("x", "y", 1)])
>>> [str(cover(moves, {"x": 2, "y": -1})), worst_move(moves, {"x": 2, "y": -1}), tightest(moves, "y", None)]
['4', {'x': -3, 'y': -2}, 3]
>>> [is_cover_paper(moves, {"x": 2, "y": -1}, ({"x": -3, "y": -2}, [0, 1, 1, 0])), outcome(moves.without(1), {"x": 1})]
[True, 'family']
>>> [[str(m) for m in tightened_covers(moves, {"x": 2, "y": -1})], ring(moves + ("y", None, -5))]
[['4', '3', '3', '4'], [1, 3, 4]]
>>> two = {"ann": {"x": 1}, "bob": {"y": -1}}
>>> [str(saved(moves, two)), overpaying(moves, two, {"ann": -3, "bob": 4})]
['5', ['bob']]
"""

QUOTES = """
>>> from lateledger.futures import Futures
>>> from lateledger.quotes import broken_sides, fair_weights, outcome, sure_gain
>>> from lateledger.spans import end_paper, lean, span
>>> futures = Futures({"dry": {"corn": 4, "oil": 1}, "wet": {"corn": 2, "oil": 3}})
>>> quotes, both = [({"corn": 1}, 2, 3), ({"oil": 1}, None, 2)], {"corn": 1, "oil": 1}
>>> [span(futures, quotes, both), end_paper(futures, quotes, both)]
[((Ratio(5, 2), False), (Ratio(5, 1), True)), ([(Ratio(1, 1), Ratio(0, 1)), (Ratio(1, 1), Ratio(0, 1))], {'dry': Ratio(1, 2), 'wet': Ratio(1, 2)})]
>>> [outcome(futures, quotes, [(1, 0), (1, 0)]), broken_sides(futures, quotes, {"dry": 1, "wet": 0})]
[(Ratio(-5, 1), {'dry': Ratio(5, 1), 'wet': Ratio(5, 1)}), [(0, 'ask')]]
>>> [fair_weights(futures, [({"corn": 1}, 3, 3), ({"oil": 1}, None, 0)]), lean(futures, quotes + [(both, None, 6)])[2]]
[None, ({'corn': 1, 'oil': 1}, None, None)]
"""

RUNS = """
>>> from lateledger.days import Run
>>> run, done = Run(["ann", "ben"], ["oil"], 2).with_fact(("a", 1, "transfer", "ann", "oil", 3))
>>> done
[(1, 'in'), (1, 'trades'), (1, 'pay'), (1, 'cover'), (1, 'call'), (2, 'in'), (2, 'trades'), (2, 'pay'), (2, 'cover'), (2, 'call')]
>>> run, done = run.with_fact(("b", 2, "order", "ben", {"oil": 1}, 5, 2))
>>> last, more = run.with_fact(("c", 2, "order", "ann", {"oil": -1}, -4, 1))
>>> [done, more[:2], last.makes(2, "round"), last.owed(2)]
[[(2, 'round'), (2, 'trades')], [(2, 'round'), (2, 'trades')], ({'b': Ratio(1, 1), 'c': Ratio(1, 1)}, {'oil': Ratio(5, 1)}), {'ann': Ratio(-5, 1), 'ben': Ratio(5, 1)}]
"""

HALLS = """
>>> from lateledger.closing import Hall
>>> shut = Hall(["ann"], ["oil"], 2)
>>> [shut.close(1), shut.tell(("a", 1, "transfer", "ann", "oil", 3))[0], shut.closed, shut.told_balances(1)]
[1, (1, 'in'), 1, {}]
>>> [shut.corrections(), shut.told_balances(2) == shut.run.balances(2), shut.as_known(1).corrections(), len(shut)]
[[('ann.goods', 'oil', Ratio(3, 1)), ('outside', 'oil', Ratio(-3, 1))], True, [], 2]
"""

DEEDS = """
>>> from lateledger.closing import Hall
>>> from lateledger.deeds import do_agree, do_part_at
>>> from lateledger.meet import how_many_ends, met
>>> from lateledger.quarrels import least_cover, matching, quarrels
>>> town, shut = Hall(["ann", "ben"], ["oil"], 2), [("close", 1), ("close", 2)]
>>> told = [("tell", ("a", 1, "transfer", "ann", "oil", 3)), ("tell", ("b", 2, "transfer", "ben", "coin", 1))]
>>> [do_agree(town, told[0], shut[0]), do_agree(town, told[1], shut[0]), do_part_at(town, shut[1], told[1])]
[False, True, True]
>>> [quarrels(town, told, shut), least_cover(town, told, shut), len(matching(town, told, shut)), how_many_ends(town, told, shut[:1])]
[[(0, 0), (0, 1), (1, 1)], [(0, 0), (0, 1)], 2, 2]
>>> [met(town, told, shut)[0], met(town, told, shut)[1].closed, met(town, told[1:], shut[:1])[0]]
[[(0, 0), (0, 1)], 2, []]
"""

TEXTS = """
>>> from lateledger.closing import Hall
>>> from lateledger.log import Log, check_of
>>> from lateledger.texts import line_of, text_of
>>> town = Hall(["ann", "ben"], ["oil"], 2)
>>> town.tell(("q", 1, "quote", {"oil": 2}, None, -3))
[(1, 'fair')]
>>> [town.close(1), line_of(town, ("tell", ("s", "strike", "q"))), text_of(town)]
[1, 'tell s strike q', 'hall 2\\nhouses ann ben\\ngoods oil\\ntell q 1 quote - -3 oil 2\\nclose 1\\n']
>>> log = Log(["close 1", ("a", "b")])
>>> [check_of(1, "close 1"), log.records(), len(log), Log.torn(log.sheet()[:-1]) == (log.first(1), 1)]
['2061', ['close 1', 'a', 'b'], 2, True]
"""

CLAIMS = """
>>> from lateledger.claims import is_claim, is_paper, is_true, paper_of
>>> from lateledger.lines import Clearing
>>> hall = Clearing({"a": 4, "b": -3, "c": -1}, [("a", "c", 2, 0), ("a", "b", 2, 1)])
>>> [is_true(("paid", hall)), paper_of(("paid", hall)), is_paper(("held", hall), ["c", "a"]), is_paper(("held", hall), ["a"])]
[False, None, True, False]
>>> [is_claim(("cost", hall, 2)), is_true(("cost", hall, 3)), is_claim(("cost", hall, True)), is_claim(("paid",))]
[True, False, False, False]
"""

DESKS = """
>>> from lateledger.desk import Desk, tried
>>> desk = Desk(["ann", "ben"], ["oil"], 2)
>>> desk["all"] = {("ann", "oil"): 1, ("ben", "oil"): 1}
>>> desk.do_all("tell b 2 order ben 5 2 oil 1", "tell c 2 order ann -4 1 oil -1", "fills 2", "prices 2", "owes ben 2")
['2', '6', 'b 1 c 1', 'oil 5', '5']
>>> [desk.do("value all 2"), tried(desk, lambda held: held.do("undo")), len(desk)]
['0', 'tell c 2 order ann -4 1 oil -1', 2]
>>> [desk.do("undo"), desk.do("fills 2"), Desk.recovered(["ann", "ben"], ["oil"], 2, desk.log().sheet())[1]]
['tell c 2 order ann -4 1 oil -1', 'b 0', 2]
"""


class ExamplesTest(unittest.TestCase):
    def run_example(self, text):
        found = []
        test = doctest.DocTestParser().get_doctest(text, {}, "example", None, 0)
        doctest.DocTestRunner().run(test, out=found.append)
        self.assertEqual("".join(found), "")
        self.assertGreater(len(test.examples), 3)

    def test_best(self):
        self.run_example(BEST)

    def test_books(self):
        self.run_example(BOOKS)

    def test_rounds(self):
        self.run_example(ROUNDS)

    def test_clearings(self):
        self.run_example(CLEARINGS)

    def test_covers(self):
        self.run_example(COVERS)

    def test_quotes(self):
        self.run_example(QUOTES)

    def test_runs(self):
        self.run_example(RUNS)

    def test_halls(self):
        self.run_example(HALLS)

    def test_deeds(self):
        self.run_example(DEEDS)

    def test_texts(self):
        self.run_example(TEXTS)

    def test_claims(self):
        self.run_example(CLAIMS)

    def test_desks(self):
        self.run_example(DESKS)

    def test_readme(self):
        text = (Path(__file__).parent.parent / "README.md").read_text(encoding="ascii")
        self.run_example(text.replace("```", ""))


if __name__ == "__main__":
    unittest.main()
