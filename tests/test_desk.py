"""[95], [96] and lateledger/desk.py."""

import unittest
from random import Random

from lateledger.accounts import Chart
from lateledger.closing import Hall
from lateledger.desk import Desk, Trial, tried
from lateledger.errors import InvalidGoods, InvalidHouse, InvalidHouses, InvalidName, InvalidReport, NameTaken, TooMany
from lateledger.errors import UnknownAccount, UnknownUnit
from lateledger.faults import CommandFailed, InvalidCommand, InvalidDay, InvalidDays, InvalidText, KnownId, NothingToUndo, UnknownName
from lateledger.log import Log
from lateledger.ratios import Ratio
from lateledger.reports import cheapest_set, value
from lateledger.journals import Journal
from lateledger.texts import line_of, text_of
from tests.late import some_market
from tests.support import GREAT, Checks, looks_like, strange_values, values_of_every_kind
from tests.test_closing import some_deeds
from tests.test_days import NINE
from tests.test_log import sheet_by_rule
from tests.test_texts import WRONG

DEALS = ["tell x 1 order ann -4 3 oil -1", "tell y 1 order ben 7 2 oil 1", "tell l 1 line ben ann 5 1", "tell m 1 move - oil 2",
         "tell f 1 future dry oil 1", "tell q 1 quote - 0 oil 1", "tell t 2 transfer ann coin -3"]
ALL = {("ann", "oil"): 1, ("ben", "oil"): 1}


def desk_of(*commands, goods=("oil",)):
    desk = Desk(["ann", "ben"], goods, 2)
    desk.do_all(*commands)
    return desk


def told_number(number):
    return str(number.top) if number.bottom == 1 else f"{number.top}/{number.bottom}"


def answer_by_rule(desk, command):
    """The answer to a command that changes nothing, out of the desk's hall."""
    hall, words = desk.hall(), command.split(" ")
    if words[0] == "closed":
        return str(hall.closed)
    if words[0] == "corrections":
        return " ".join(f"{account} {unit} {told_number(amount)}" for account, unit, amount in hall.corrections()) or "-"
    if words[0] == "enough":
        reports = {name: desk[name] for name in desk.names()}
        return " ".join(cheapest_set(desk.chart, reports, {name: 0 for name in reports})) or "-"
    day = int(words[-1])
    makes, balances = hall.told(day), hall.told_balances(day)
    if words[0] in ("fills", "prices"):
        return " ".join(f"{name} {told_number(number)}" for name, number in makes[1][words[0] == "prices"].items()) or "-"
    if words[0] == "fair":
        return "yes" if makes[7] else "no"
    if words[0] == "need":
        found = makes[5][words[1]]
        return found if isinstance(found, str) else told_number(found)
    if words[0] == "owes":
        return told_number(Ratio(0) - balances.get((words[1] + ".owed", "coin"), 0))
    if words[0] == "balance":
        return told_number(Ratio.total([number for (account, unit), number in balances.items()
                                        if unit == words[2] and (account + ".").startswith(words[1] + ".")]))
    entries = [[(account, unit, number) for (account, unit), number in balances.items()]] if balances else []
    return told_number(value(Journal(desk.chart, entries), desk[words[1]]))


def asked(desk):
    """All commands of a desk that change nothing."""
    hall = desk.hall()
    days = range(1, hall.days + 1)
    return (["closed", "corrections", "enough"] + [f"{word} {day}" for word in ("fills", "prices", "fair") for day in days]
            + [f"{word} {house} {day}" for word in ("owes", "need") for house in hall.houses() for day in days]
            + [f"balance {account} {unit} {day}" for account in desk.chart.accounts() for unit in desk.chart.units() for day in days]
            + [f"value {name} {day}" for name in desk.names() for day in days])


def state(desk):
    return [desk.hall(), desk.hall().deeds(), desk.names(), [desk[name] for name in desk.names()], desk.log(), len(desk), desk.chart]


class DeskTest(Checks, unittest.TestCase):
    def test_a_new_desk(self):
        desk = Desk(("ben", "ann"), ["oil", "corn"], days=2)
        self.assertEqual([desk.hall(), desk.names(), len(desk), desk.log()], [Hall(["ann", "ben"], ["corn", "oil"], 2), [], 0, Log()])
        accounts = [f"{house}{part}" for house in ("ann", "ben") for part in ("", ".coin", ".cover", ".goods", ".owed")]
        self.assertEqual(desk.chart, Chart(accounts + ["hall", "outside"], ["corn", "oil", "coin"]))
        self.assert_same([desk.do(command) for command in ("closed", "corrections", "enough", "fills 1", "prices 2", "fair 1", "owes ann 1",
                                                           "need ben 2", "balance ann.goods oil 1")],
                         ["0", "-", "-", "-", "-", "yes", "0", "0", "0"])

    def test_errors_of_the_hall(self):
        for call in (Desk, lambda *parts: Desk.recovered(*parts, 7)):
            self.assert_raises(InvalidHouses, {"position": 1}, call, ["ann", "ann"], None, None)
            self.assert_raises(InvalidGoods, {"position": 0}, call, ["ann"], ["ann"], None)
            self.assert_keeps(InvalidDays, True, call, ["ann"], ["oil"], True)
        for call in (Desk, lambda *parts: Desk.recovered(*parts, "")):
            self.assert_raises(TooMany, {"what": "houses", "allowed": 8}, call, NINE, list("abcde"), 13)
            self.assert_raises(TooMany, {"what": "goods", "allowed": 4}, call, NINE[:8], list("abcde"), 13)
            self.assert_raises(TooMany, {"what": "days", "allowed": 12}, call, NINE[:8], list("abcd"), 13)
        # Too many is what is told last.
        self.assert_raises(InvalidText, {"line": None}, Desk.recovered, NINE, ["oil"], 13, None)

    def test_answers_to_deeds(self):
        source = Random(951)
        for _ in range(25):
            houses, goods, days = some_market(source)
            desk, hall = Desk(houses, goods, days), Hall(houses, goods, days)
            lines = []
            for word, what in some_deeds(source, houses, goods, days):
                lines.append(line_of(hall, (word, what)))
                wanted = len(hall.tell(what)) if word == "tell" else hall.close(what)
                self.assert_same(desk.do(command=lines[-1]), str(wanted))
                self.assertEqual([desk.hall(), desk.hall().deeds(), len(desk)], [hall, hall.deeds(), len(lines)])
            self.assertEqual(desk.log(), Log(lines))
            desk["some"] = {("ann" if "ann" in houses else houses[0], goods[0]): 2, ("outside", "coin"): -1}
            desk["rest"] = {("hall", goods[0]): 1}
            kept = state(desk)
            for command in asked(desk):
                self.assert_same(desk.do(command), answer_by_rule(desk, command))
            self.assertEqual(state(desk), kept)

    def test_some_answers(self):
        desk = desk_of(*DEALS)
        self.assert_same([desk.do(command) for command in (
            "fills 1", "prices 1", "owes ann 1", "owes ben 1", "owes ben 2", "balance ben.coin coin 1", "balance ann oil 2", "balance ben coin 1",
            "need ann 1", "need ben 1", "fair 1", "fair 2", "fills 2", "prices 2", "closed")],
            ["x 2 y 2", "oil 4", "-3", "3", "0", "-9", "-2", "-8", "endless", "4", "no", "yes", "-", "-", "0"])
        # On day 1 all steps from the round to the call are done anew, on day 2 all but the round; the line was full.
        self.assert_same([desk.do("close 1"), desk.do("tell z 1 order ben 9 1 oil 1"), desk.do("closed"), desk.do("fills 1")],
                         ["1", "12", "1", "x 2 y 2"])
        self.assert_same(desk.do("corrections"), "ann.goods oil -1 ann.owed coin 4 ben.coin coin -2 ben.cover coin 2 ben.goods oil 1 "
                                                 "ben.owed coin -4")
        self.assert_same(desk.do("tell r 2 order ben 1 1 oil -7"), "2")
        half = desk_of("tell a 1 order ann -1 5 oil -3", "tell b 1 order ben 29 1 oil 7", "tell s 1 move oil - 1", "tell u 1 move - oil 1")
        self.assert_same([half.do(command) for command in ("fills 1", "prices 1", "owes ben 1", "owes ann 1")],
                         ["a 7/3 b 1", "oil 1/3", "7/3", "-7/3"])
        ring = desk_of("tell s 1 move oil - -1", "tell u 1 move - oil 0")
        self.assert_same([ring.do("need ann 1"), ring.do("need ben 2")], ["ring", "ring"])

    def test_what_is_told_of_closed_days(self):
        desk = desk_of("tell a 1 transfer ann oil 3", "close 1", "tell b 1 transfer ann oil 4", "tell q 1 quote - 0 oil 1",
                       "tell f 1 future dry oil 1", "tell o 1 order ben 5 1 oil 1")
        desk["all"] = ALL
        self.assert_same([desk.do(command) for command in ("balance ann oil 1", "balance ann oil 2", "value all 1", "value all 2", "fair 1",
                                                           "fills 1", "prices 1", "corrections")],
                         ["3", "7", "3", "7", "yes", "-", "-", "ann.goods oil 4 outside oil -4"])

    def test_what_is_no_command(self):
        desk = desk_of(*DEALS[:2])
        desk["all"] = ALL
        kept = state(desk)
        wrong = ["", " ", "undo ", " undo", "undo 1", "undo undo", "Undo", "closed 1", "fills", "fills x", "fills -1", "fills 01", "fills +1",
                 "fills  1", "fills 1 ", "fills 1 1", "fills 1/1", "fills -", "fills -0", "fills " + "1" * 31, "prices", "prices ann", "owes 1",
                 "owes ann", "owes ann ben 1", "owes Ann 1", "owes ann.coin 1", "owes abcdefghi 1", "owes ann x", "owes ann -1", "owes - 1",
                 "balance ann oil", "balance ann 1", "balance ann. oil 1", "balance .ann oil 1", "balance a.b.c.d oil 1", "balance Ann oil 1",
                 "balance ann Oil 1", "balance ann oil.x 1", "balance ann - 1", "balance ann oil one", "need", "need ann", "need 1", "need ann 1 1",
                 "fair", "fair yes", "corrections 1", "value all", "value 1", "value All 1", "value all all", "value a.b 1", "enough all", "all",
                 "all 1", "all undo", "undo%", "100%", "closed\n", "undo\n", "\n", "x", "tell", "close", "close 0", "close 3", "close 01",
                 "hall 2", "houses ann ben", "goods oil", "undo\t", "clos\xe9d", "a" * 401]
        for command in wrong + [line for line in WRONG if line not in ("close 3",)] + ["tell a 3 transfer ann oil 1"]:
            for call in (desk.do, desk, lambda command: desk.__iadd__(command)):
                self.assert_keeps(InvalidCommand, command, call, command)
        for value in values_of_every_kind() + strange_values("undo", "closed") + [("tell", ("a", "strike", "b")), ["undo"], b"undo", None]:
            self.assert_keeps(InvalidCommand, value, desk.do, value)
            error = self.assert_raises(CommandFailed, {"position": 1}, desk.do_all, "close 1", value, "undo")
            self.assertIsInstance(error.__cause__, InvalidCommand)
        self.assertEqual(state(desk), kept)

    def test_errors_in_the_sequence_of_the_words(self):
        desk = desk_of()
        desk["all"] = ALL
        for command, kind, wanted in (
                ("owes cy 9", InvalidHouse, "cy"), ("owes oil 1", InvalidHouse, "oil"), ("owes ann 9", InvalidDay, 9), ("owes ann 0", InvalidDay, 0),
                ("need coin 9", InvalidHouse, "coin"), ("need ben 3", InvalidDay, 3), ("balance cy rye 9", UnknownAccount, "cy"),
                ("balance ann.gold rye 9", UnknownAccount, "ann.gold"), ("balance ann.goods rye 9", UnknownUnit, "rye"),
                ("balance ann.goods ann 9", UnknownUnit, "ann"), ("balance ann.goods coin 9", InvalidDay, 9), ("balance a.b.c oil 1", UnknownAccount, "a.b.c"),
                ("value some 9", UnknownName, "some"), ("value all 9", InvalidDay, 9), (f"fills {GREAT}", InvalidDay, GREAT), ("prices 0", InvalidDay, 0),
                ("fair 3", InvalidDay, 3), ("undo", NothingToUndo, None)):
            attributes = {} if wanted is None else {"value": wanted}
            self.assert_raises(kind, attributes, desk.do, command)
            self.assert_raises(kind, attributes, desk, command)
            error = self.assert_raises(CommandFailed, {"position": 0}, desk.do_all, command, "x")
            self.assertIs(error.__cause__.__class__, kind)
            self.assertEqual(vars(error.__cause__), attributes)
        desk.do("tell a 1 transfer ann oil 1")
        self.assert_raises(KnownId, {"value": "a"}, desk.do, "tell a 1 transfer ann oil 2")
        for at in range(12):
            desk.do(f"tell o{'abcdefghijkl'[at]} 1 order ann 1 1 oil 1")
        self.assert_raises(TooMany, {"what": "orders", "allowed": 12}, desk.do, "tell oo 1 order ann 1 1 oil 1")
        self.assertEqual([len(desk), len(desk.log())], [13, 13])

    def test_undo(self):
        source = Random(952)
        for _ in range(15):
            houses, goods, days = some_market(source)
            desk = Desk(houses, goods, days)
            desk["some"] = {}
            states, lines = [desk.hall()], []
            for _ in range(source.randint(1, 14)):
                if lines and source.random() < 0.4:
                    self.assert_same(desk.do("undo"), lines.pop())
                    states.pop()
                else:
                    deeds = some_deeds(source, houses, goods, days) or [("close", 1)]
                    line = line_of(states[0], source.choice(deeds))
                    try:
                        desk.do(line)
                    except KnownId:
                        continue
                    lines.append(line)
                    states.append(desk.hall())
                self.assertEqual([desk.hall(), desk.hall().deeds(), len(desk)], [states[-1], states[-1].deeds(), len(lines)])
            logged = len(desk.log())
            for line in lines[::-1]:
                self.assert_same(desk.do("undo"), line)
            self.assert_raises(NothingToUndo, {}, desk.do, "undo")
            self.assertEqual([desk.hall(), len(desk), len(desk.log()), desk.names()], [Hall(houses, goods, days), 0, logged + len(lines), ["some"]])

    def test_undo_of_idle_deeds(self):
        desk = desk_of("tell a 1 transfer ann oil 1", "close 1")
        hall = desk.hall()
        self.assert_same([desk.do("tell a 1 transfer ann oil 1"), desk.do("close 1"), len(desk)], ["0", "0", 4])
        self.assertEqual(desk.hall(), hall)
        self.assert_same([desk.do("undo"), desk.do("undo"), len(desk)], ["close 1", "tell a 1 transfer ann oil 1", 2])
        self.assertEqual(desk.hall().deeds(), hall.deeds())
        self.assert_same([desk.do("undo"), desk.hall().closed], ["close 1", 0])
        self.assertEqual(desk.log().entries()[1:], ["tell a 1 transfer ann oil 1", "close 1", "undo", "undo", "undo"])

    def test_do_all(self):
        desk = desk_of()
        self.assert_same(desk.do_all(), [])
        self.assert_same(desk.do_all("closed", "fair 1"), ["0", "yes"])
        self.assertEqual(desk.log(), Log())
        self.assert_same(desk.do_all("tell a 1 transfer ann oil 1", "closed", "undo", "close 1"), ["10", "0", "tell a 1 transfer ann oil 1", "1"])
        self.assertEqual(desk.log(), Log([("tell a 1 transfer ann oil 1", "undo", "close 1")]))
        self.assert_same(desk.do_all("close 2"), ["1"])
        self.assertEqual(desk.log().entries()[1], ("close 2",))
        kept = state(desk)
        for commands, at, kind in ((("undo", "undo", "undo"), 2, NothingToUndo), (("undo", "close 3"), 1, InvalidCommand), (("owes cy 1",), 0, InvalidHouse),
                                   (("tell b strike c", "tell b strike d", "x"), 1, KnownId), (("undo", "value all 1"), 1, UnknownName),
                                   (("closed", "fills 1", "balance x oil 1"), 2, UnknownAccount)):
            error = self.assert_raises(CommandFailed, {"position": at}, desk.do_all, *commands)
            self.assertIs(error.__cause__.__class__, kind)
            self.assertEqual(state(desk), kept)

    def test_ways_to_do(self):
        desk = desk_of()
        self.assert_same(desk("close 1"), "1")
        same = desk
        desk += "close 2"
        self.assertIs(desk, same)
        desk += "closed"
        self.assert_same([desk(command="closed"), desk.log().entries()], ["2", ["close 1", "close 2"]])

    def test_kept_reports(self):
        desk = desk_of("tell a 1 transfer ann oil 1", goods=("oil", "tea"))
        report = {("outside", "tea"): 0, ("ann", "oil"): 3, ("hall", "coin"): -1}
        desk["some"] = report
        desk["none"] = {}
        report.clear()
        self.assert_same([desk["some"], desk["none"], desk.names()],
                         [{("ann", "oil"): 3, ("hall", "coin"): -1, ("outside", "tea"): 0}, {}, ["none", "some"]])
        self.assert_same(["some" in desk, "other" in desk], [True, False])
        self.assert_all_new(lambda: [desk["some"], desk["none"], desk.names()])
        desk["some"].clear()
        self.assertEqual(desk.do("value some 1"), "3")
        for value in values_of_every_kind() + strange_values("some", "none") + ["Some"]:
            self.assert_keeps(UnknownName, value, lambda: desk[value])
            self.assert_bool(value in desk, False)
            if not looks_like(value, "a", "tea", "coin", "hall", "outside", "abcdefgh", "equals"):
                self.assert_keeps(InvalidName, value, lambda: desk.__setitem__(value, None))
            if not looks_like(value, {}):
                self.assert_keeps(InvalidReport, value, lambda: desk.__setitem__("other", value))
        self.assert_raises(NameTaken, {"name": "some"}, lambda: desk.__setitem__("some", None))
        for wrong in ({("ann", "rye"): 1}, {("cy", "oil"): 1}, {("ann", "oil"): True}, {("ann", "oil"): Ratio(1)}, {"ann": 1}, {("ann", "oil", 1): 1}):
            self.assert_keeps(InvalidReport, wrong, lambda: desk.__setitem__("other", wrong))
        self.assertEqual(desk.names(), ["none", "some"])
        with self.assertRaises(TypeError):
            iter(desk)

    def test_twelve_and_thirteen_reports(self):
        desk = desk_of()
        for name in "abcdefghijkl":
            desk[name] = ALL
        self.assert_raises(NameTaken, {"name": "a"}, lambda: desk.__setitem__("a", None))
        self.assert_raises(InvalidReport, {"value": None}, lambda: desk.__setitem__("m", None))
        self.assert_raises(TooMany, {"what": "reports", "allowed": 12}, lambda: desk.__setitem__("m", {}))
        self.assertEqual([len(desk.names()), desk.do("enough")], [12, "a"])
        # Reports are not taken back.
        desk.do("close 1")
        desk.do("undo")
        self.assertEqual(len(desk.names()), 12)

    def test_enough(self):
        desk = desk_of()
        desk["z"] = {("ann", "oil"): 1}
        desk["m"] = {("ann", "oil"): 1, ("ben", "oil"): 1, ("hall", "oil"): 1}
        desk["a"] = {("outside", "oil"): 2}
        desk["b"] = {("ben.goods", "coin"): 1, ("ann", "coin"): 0}
        # What is outside is all the others together, turned round.
        self.assert_same([desk.do("enough"), answer_by_rule(desk, "enough")], ["a b z", "a b z"])

    def test_300_entries(self):
        desk = desk_of()
        for _ in range(149):
            desk.do("close 1")
            desk.do("undo")
        desk.do("close 1")
        desk.do_all("undo", "close 1", "undo", "tell a 1 transfer ann oil 1")
        self.assertEqual(len(desk.log()), 300)
        kept = state(desk)
        wanted = {"what": "entries", "allowed": 300}
        for command in ("close 2", "undo", "tell a 1 transfer ann oil 1"):
            self.assert_raises(TooMany, wanted, desk.do, command)
            error = self.assert_raises(CommandFailed, {"position": 1}, desk.do_all, "closed", command, "x")
            self.assert_raises(TooMany, wanted, self.raised, error.__cause__)
        # The errors of the hall come ahead, and what is no deed is done.
        self.assert_raises(KnownId, {"value": "a"}, desk.do, "tell a 1 transfer ann oil 2")
        self.assert_raises(InvalidCommand, {"value": "close 3"}, desk.do, "close 3")
        self.assert_same(desk.do_all("closed", "balance ann oil 1"), ["0", "1"])
        self.assertEqual(state(desk), kept)
        again, many = Desk.recovered(["ann", "ben"], ["oil"], 2, desk.log().sheet())
        self.assertEqual([many, again.log(), again.hall()], [300, desk.log(), desk.hall()])

    def test_nothing_to_undo_ahead_of_too_many(self):
        desk = desk_of()
        for _ in range(150):
            desk.do("close 1")
            desk.do("undo")
        self.assert_raises(NothingToUndo, {}, desk.do, "undo")
        self.assert_raises(TooMany, {"what": "entries", "allowed": 300}, desk.do, "close 1")

    def raised(self, error):
        raise error

    def test_trials(self):
        desk = desk_of(*DEALS)
        desk["all"] = ALL
        kept = state(desk)
        with Trial(desk) as held:
            self.assertIs(held, desk)
            held["more"] = {}
            held.do_all("undo", "close 2")
            held += "undo"
            self.assertEqual([len(desk), desk.names(), len(desk.log())], [len(DEALS) - 1, ["all", "more"], 3])
        self.assertEqual(state(desk), kept)
        with self.assertRaises(KnownId):
            with Trial(desk):
                desk.do("close 1")
                desk.do("tell x strike y")
        self.assertEqual(state(desk), kept)
        with self.assertRaises(ZeroDivisionError):
            with Trial(desk=desk) as held:
                held["more"] = {}
                held.do("undo")
                raise ZeroDivisionError
        self.assertEqual(state(desk), kept)

    def test_trials_one_behind_another_and_within_another(self):
        desk = desk_of("close 1")
        trial = Trial(desk)
        for command in ("undo", "close 2"):
            with trial:
                desk.do(command)
            self.assertEqual(desk.log().entries(), [("close 1",)])
            desk.do("close 2")
            with trial:
                desk.do("undo")
            self.assertEqual(desk.do("closed"), "2")
            desk.do("undo")
            with Trial(desk):
                desk.do("close 2")
                with Trial(desk):
                    desk.do("undo")
                    desk.do("undo")
                self.assertEqual([desk.do("closed"), len(desk)], ["2", 2])
            self.assertEqual([desk.do("closed"), len(desk)], ["1", 1])
            desk = desk_of("close 1")
            trial = Trial(desk)

    def test_tried(self):
        desk = desk_of(*DEALS)
        kept = state(desk)
        self.assert_same(tried(desk, lambda held: [held.do("undo"), len(held), held is desk]), [DEALS[-1], len(DEALS) - 1, True])
        self.assertEqual(state(desk), kept)
        self.assert_raises(NothingToUndo, {}, tried, desk=desk, action=lambda held: [held.do("undo") for _ in range(20)])
        self.assertEqual(state(desk), kept)
        self.assertIsNone(tried(desk, lambda held: None))

    def some_desk(self, source):
        houses, goods, days = some_market(source)
        desk = Desk(houses, goods, days)
        lines = [line_of(desk.hall(), deed) for deed in some_deeds(source, houses, goods, days)]
        while lines:
            many = source.choice([1, 1, 2, 3])
            some, lines = lines[:many], lines[many:]
            if source.random() < 0.3:
                some.append("undo")
            try:
                if source.random() < 0.5:
                    desk.do_all(*some, "closed")
                else:
                    for command in some:
                        desk.do(command)
            except (CommandFailed, KnownId):
                pass
        return (houses, goods, days), desk

    def test_recovered(self):
        source = Random(953)
        for _ in range(20):
            market, desk = self.some_desk(source)
            log = desk.log()
            again, many = Desk.recovered(*market, text=log.sheet())
            self.assertEqual([many, again.log(), again.hall(), again.hall().deeds(), len(again)],
                             [len(log), log, desk.hall(), desk.hall().deeds(), len(desk)])
            self.assertEqual(again.names(), [])
            sheet = log.sheet()
            for at in sorted({source.randint(0, len(sheet)) for _ in range(12)}):
                self.check_recovered(market, sheet[:at])
                if at < len(sheet):
                    self.check_recovered(market, sheet[:at] + "x" + sheet[at + 1:])

    def check_recovered(self, market, text):
        """That what is recovered has done the good beginning, entry by entry."""
        good = Log.torn(text)[0]
        desk, many = Desk.recovered(*market, text)
        self.assertEqual([many, desk.log()], [len(good), good])
        wanted = Desk(*market)
        for entry in good:
            wanted.do_all(*entry) if isinstance(entry, tuple) else wanted.do(entry)
        self.assertEqual(state(desk), state(wanted))

    def test_recovered_up_to_what_fails(self):
        good = ["tell a 1 transfer ann oil 1", ("close 1", "undo", "tell b strike c"), "undo"]
        for bad in ("closed", "fills 1", "x", "close 3", "tell a 1 transfer ann oil 2", "tell a 3 transfer ann oil 1", ("close 1", "closed"), ("x",),
                    ("undo", "undo"), ("close 2", "tell a strike b"), "undo 1", "value all 1", ("undo", "fair 1"), "all2 x"):
            entries = good + [bad, "close 2"]
            desk, many = Desk.recovered(["ann", "ben"], ["oil"], 2, sheet_by_rule(entries))
            self.assertEqual([many, desk.log(), desk.hall().closed, len(desk.hall().run)], [3, Log(good), 0, 1], bad)
        desk, many = Desk.recovered(["ann", "ben"], ["oil"], 2, sheet_by_rule(["undo"]))
        self.assertEqual([many, desk.log()], [0, Log()])
        for text in ("", "\n", "x", "1 close 1 0000\n"):
            desk, many = Desk.recovered(houses=["ann"], goods=["oil"], days=2, text=text)
            self.assertEqual([many, desk.log(), len(desk)], [0, Log(), 0])
        for value in values_of_every_kind() + [b"", Log()]:
            if not isinstance(value, str):
                self.assert_raises(InvalidText, {"line": None}, Desk.recovered, ["ann"], ["oil"], 2, value)

    def test_what_is_told_is_apart(self):
        desk = desk_of(*DEALS)
        kept = state(desk)
        desk.hall().close(2)
        desk.hall().deeds().clear()
        desk.log().entries().clear()
        desk.do_all("closed").clear()
        desk.names().append("x")
        self.assertEqual(state(desk), kept)
        self.assertEqual(text_of(desk.hall()).split("\n")[3:-1], DEALS)


if __name__ == "__main__":
    unittest.main()
