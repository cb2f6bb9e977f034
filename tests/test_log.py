"""[93], [94] and lateledger/log.py."""

import unittest
from random import Random

from lateledger.errors import InvalidEntries, InvalidEntry, InvalidNumber, TooMany
from lateledger.faults import InvalidLog, InvalidRecord, InvalidText
from lateledger.log import Log, check_of, is_record
from tests.support import GREAT, Checks, strange_values, values_of_every_kind

SIGNS = [chr(number) for number in range(32, 127) if number != 37]
ENTRIES = ["close 1", ("a", "b"), "tell s strike q", ("undo",), "x~!", ("all3", "al", "undo all 2"), "0"]
RECORDS = ["close 1", "a", "b", "tell s strike q", "undo", "x~!", "all3", "al", "undo all 2", "0"]
NO_RECORDS = ["", " ", " a", "a ", " a ", "all", "all 1", "all a", "all  a", "50%", "%", "a\nb", "a\n", "a\tb", "\x7f", "\xe9", "a" * 401]


def check_by_sum(line):
    """The four figures of [93] for what stands ahead of the last blank."""
    total = sum((at + 1) * (SIGNS.index(sign) + 1) for at, sign in enumerate(line))
    return f"{total % 9973:04d}"


def sheet_by_rule(entries):
    told = []
    for entry in entries:
        told += [f"all {len(entry)}", *entry] if isinstance(entry, tuple) else [entry]
    lines = [f"{number} {record}" for number, record in enumerate(told, 1)]
    return "".join(f"{line} {check_by_sum(line)}\n" for line in lines)


def lines_of(entries):
    return [sum(1 + len(entry) if isinstance(entry, tuple) else 1 for entry in entries[:many]) for many in range(len(entries) + 1)]


def some_record(source):
    while True:
        record = "".join(source.choice(SIGNS) for _ in range(source.choice([1, 2, 5, 12, 40])))
        if record[0] != " " and record[-1] != " " and record.split(" ")[0] != "all":
            return record


def some_entries(source, most=8):
    return [some_record(source) if source.random() < 0.6 else tuple(some_record(source) for _ in range(source.randint(1, 4)))
            for _ in range(source.randint(0, most))]


class LogTest(Checks, unittest.TestCase):
    def test_records(self):
        for value in RECORDS + SIGNS[1:] + ["a" * 400, "a  b", "All", "ALL 1", "all.", "allx 3", "-", "a" + " " * 398 + "b", "x all"]:
            self.assert_bool(is_record(value), True)
        for value in NO_RECORDS + ["all " + "b" * 3, "all" + " " * 3 + "c"]:
            self.assert_bool(is_record(value), False)
        for value in values_of_every_kind() + strange_values("a"):
            wanted = isinstance(value, str) and value != ""
            self.assert_bool(is_record(value), wanted)

    def test_checks(self):
        self.assert_same(check_of(1, "close 1"), "2061")
        source = Random(931)
        for _ in range(300):
            number, record = source.choice([1, 2, 9, 10, 300, GREAT]), some_record(source)
            self.assert_same(check_of(number=number, record=record), check_by_sum(f"{number} {record}"))
        for many in (1, 2, 300, GREAT):
            self.assert_same(check_of(7, f"all {many}"), check_by_sum(f"7 all {many}"))
        self.assertEqual({len(check_of(number, "a")) for number in range(1, 200)}, {4})
        self.assert_same(check_of(3, "~" * 400), check_by_sum("3 " + "~" * 400))
        self.assertIn("0", {check_of(number, "a")[0] for number in range(1, 99)})

    def test_wrong_checks(self):
        for value in values_of_every_kind() + [-7]:
            if not isinstance(value, int) or isinstance(value, bool) or value < 1:
                self.assert_keeps(InvalidNumber, value, check_of, value, None)
            if not isinstance(value, str) or value == "":
                self.assert_keeps(InvalidRecord, value, check_of, 1, value)
        for value in NO_RECORDS + ["all 0", "all -1", "all 01", "all 1 ", "all +1", "all 1 2", "all 1.", "all " + str(GREAT + 1)]:
            if value != "all 1":
                self.assert_keeps(InvalidRecord, value, check_of, 1, value)

    def test_what_a_log_tells(self):
        log = Log(ENTRIES)
        self.assert_same([log.entries(), log.records(), len(log), list(log)], [ENTRIES, RECORDS, 7, ENTRIES])
        self.assert_same([log.sheet(), Log().sheet()], [sheet_by_rule(ENTRIES), ""])
        self.assertEqual(log.sheet().split("\n")[1:3], [f"2 all 2 {check_by_sum('2 all 2')}", f"3 a {check_by_sum('3 a')}"])
        self.assertEqual([repr(log), repr(Log(("close 1",))), repr(Log([("a",)]))], [f"Log({ENTRIES!r})", "Log(['close 1'])", "Log([('a',)])"])
        self.assertEqual([entry for entry in log], ENTRIES)
        self.assertEqual([Log(entries=()), Log([])], [Log(), Log()])
        self.assert_all_new(lambda: [log.entries(), log.records(), list(log)])

    def test_in(self):
        log = Log(ENTRIES)
        for record in RECORDS:
            self.assert_bool(record in log, True)
        for value in values_of_every_kind() + strange_values(*RECORDS) + ["c", "all 2", ("a", "b"), ("undo",), "2", "2061"]:
            if not isinstance(value, str) or value not in RECORDS:
                self.assert_bool(value in log, False)

    def test_wrong_entries(self):
        for value in values_of_every_kind():
            if not isinstance(value, (list, tuple)):
                self.assert_raises(InvalidEntries, {"position": None}, Log, value)
            if not isinstance(value, str) or value == "":
                self.assert_raises(InvalidEntries, {"position": 1}, Log, ["a", value, None])
                self.assert_raises(InvalidEntries, {"position": 2}, Log, ("a", ("b", "c"), ("d", value)))
                self.assert_keeps(InvalidEntry, value, lambda: Log() + value)
        for value in NO_RECORDS + [(), ["a"], ("a", ""), ("a", ("b",)), (["a"],), {"a": 1}]:
            self.assert_raises(InvalidEntries, {"position": 0}, Log, [value] * 301)
            self.assert_keeps(InvalidEntry, value, lambda: Log(["a"] * 300) + value)

    def test_too_many(self):
        full = Log(["a"] * 299 + [tuple("abc")])
        self.assertEqual([len(full), len(full.records())], [300, 302])
        self.assert_raises(TooMany, {"what": "entries", "allowed": 300}, Log, ["a"] * 301)
        for entry in ("a", ("a",)):
            self.assert_raises(TooMany, {"what": "entries", "allowed": 300}, lambda: full + entry)
        self.assertEqual(Log.read(full.sheet()), full)
        # Of a sheet with more entries than are let the first 300 are good.
        more = sheet_by_rule(["a"] * 150 + [("b", "c")] * 150 + ["d"] * 5)
        self.assertEqual(Log.torn(more), (Log(["a"] * 150 + [("b", "c")] * 150), 600))
        self.assertIsNone(Log.read(more))

    def test_plus_and_first_and_behind(self):
        log = Log()
        for many, entry in enumerate(ENTRIES):
            self.assertEqual(log, Log(ENTRIES[:many]))
            log = log + entry
        self.assertEqual(log, Log(ENTRIES))
        for many in range(len(ENTRIES) + 1):
            first = log.first(many=many)
            self.assertEqual(first, Log(ENTRIES[:many]))
            self.assert_same(log.behind(other=first), ENTRIES[many:])
            self.assertEqual((first + "other").behind(log), ["other"] if many == len(ENTRIES) else None)
            self.assertEqual(first.behind(log), [] if many == len(ENTRIES) else None)
        self.assertIsNone(log.behind(Log(["a"])))
        self.assertIsNone(Log(["a", "b"]).behind(Log([("a", "b")])))
        self.assertIsNone(Log([("a",)]).behind(Log(["a"])))
        self.assert_all_new(lambda: log.behind(log.first(2)))
        for value in values_of_every_kind() + [8, -1]:
            if value.__class__ is not int or not 0 <= value <= 7:
                self.assert_keeps(InvalidNumber, value, log.first, value)
            self.assert_keeps(InvalidLog, value, log.behind, value)
        self.assert_keeps(InvalidLog, ENTRIES, log.behind, ENTRIES)

    def test_equal(self):
        log = Log(ENTRIES)
        self.assert_bool(log == Log(tuple(ENTRIES)), True)
        for other in (Log(ENTRIES[:-1]), Log(ENTRIES[::-1]), Log(RECORDS), Log()):
            self.assert_bool(log == other, False)
            self.assert_bool(log != other, True)
        for value in values_of_every_kind() + [ENTRIES, log.sheet()]:
            self.assert_bool(log == value, False)

    def test_it_never_changes(self):
        entries = list(ENTRIES)
        log = Log(entries)
        entries.clear()
        for told in (log.entries(), log.records(), log.behind(Log())):
            told.clear()
        log + "more"
        self.assertEqual(log, Log(ENTRIES))

    def test_read_just_sheets(self):
        source = Random(932)
        for _ in range(60):
            entries = some_entries(source)
            sheet = sheet_by_rule(entries)
            log = Log.read(value=sheet)
            self.assert_same(log.entries(), entries)
            self.assertEqual(Log.torn(text=sheet), (log, lines_of(entries)[-1]))
            for other in (sheet + "\n", sheet + "x", sheet + " ", "\n" + sheet, sheet[:-1], sheet[1:], sheet + sheet, sheet.upper() + "A\n"):
                self.assertTrue(Log.read(other) is None or (entries == [] and other == ""))
        self.assertEqual(Log.read(""), Log())
        for value in values_of_every_kind() + [["a"], Log(["a"]), b"", b"1 a 0001\n"]:
            if not isinstance(value, str):
                self.assertIsNone(Log.read(value))
                self.assert_raises(InvalidText, {"line": None}, Log.torn, value)

    def assert_torn(self, text, entries, many):
        self.assertEqual(Log.torn(text), (Log(entries[:many]), lines_of(entries)[many]))

    def test_cut_off_anywhere(self):
        source = Random(933)
        for _ in range(12):
            entries = some_entries(source, 6)
            sheet, counts = sheet_by_rule(entries), lines_of(entries)
            for at in range(len(sheet) + 1):
                whole = sheet[:at].count("\n")
                self.assert_torn(sheet[:at], entries, max(many for many, lines in enumerate(counts) if lines <= whole))

    def good_lines(self, entries, lines):
        """How many entries stand wholly in the first so many lines."""
        return max(many for many, count in enumerate(lines_of(entries)) if count <= lines)

    def test_one_sign_otherwise_or_two_exchanged(self):
        source = Random(934)
        for _ in range(8):
            entries = some_entries(source, 5) or ["a"]
            lines = sheet_by_rule(entries).split("\n")[:-1]
            for at, line in enumerate(lines):
                end = line.rindex(" ")
                for _ in range(25):
                    place = source.randrange(end)
                    other = source.choice([sign for sign in SIGNS if sign != line[place]])
                    bent = line[:place] + other + line[place + 1:]
                    self.assert_torn("".join(one + "\n" for one in lines[:at] + [bent] + lines[at + 1:]), entries, self.good_lines(entries, at))
                    left, right = sorted(source.sample(range(end), 2))
                    if line[left] != line[right]:
                        bent = line[:left] + line[right] + line[left + 1:right] + line[left] + line[right + 1:]
                        self.assert_torn("".join(one + "\n" for one in lines[:at] + [bent] + lines[at + 1:]), entries,
                                         self.good_lines(entries, at))

    def test_lines_out_or_twice_or_exchanged(self):
        source = Random(935)
        for _ in range(25):
            entries = some_entries(source) or ["a"]
            lines = sheet_by_rule(entries).split("\n")[:-1]
            for at in range(len(lines)):
                out = lines[:at] + lines[at + 1:]
                twice = lines[:at + 1] + lines[at:]
                self.assert_torn("".join(one + "\n" for one in out), entries, self.good_lines(entries, at))
                self.assert_torn("".join(one + "\n" for one in twice), entries, self.good_lines(entries, at + 1))
                other = source.randrange(len(lines))
                if other != at:
                    some = list(lines)
                    some[at], some[other] = some[other], some[at]
                    self.assert_torn("".join(one + "\n" for one in some), entries, self.good_lines(entries, min(at, other)))

    def check_lines(self, contents, entries, lines):
        """That a text of lines with these contents, each with its number and check, has this good beginning."""
        told = [f"{number} {content}" for number, content in enumerate(contents, 1)]
        text = "".join(f"{line} {check_by_sum(line)}\n" for line in told)
        self.assertEqual(Log.torn(text), (Log(entries), lines))
        self.assertEqual(Log.read(text), Log(entries) if lines == len(contents) else None)

    def test_heads_of_tuples(self):
        self.check_lines(["all 2", "a", "b"], [("a", "b")], 3)
        self.check_lines(["all 1", "a", "b"], [("a",), "b"], 3)
        self.check_lines(["all 3", "a", "b"], [], 0)
        self.check_lines(["x", "all 3", "a", "b"], ["x"], 1)
        self.check_lines(["x", "all 2", "a", "all 1", "b"], ["x"], 1)
        for head in ("all 0", "all -1", "all 01", "all", "all x", "all 2 2", "all 1.0", "all +1", "all 9" + "9" * 30):
            self.check_lines(["x", head, "a", "b"], ["x"], 1)
        self.check_lines(["x", f"all {GREAT}", "a"], ["x"], 1)
        self.check_lines(["all 1"], [], 0)
        self.check_lines([], [], 0)

    def test_lines_that_are_bent_otherwise(self):
        def line(number, record, check=None):
            told = f"{number} {record}"
            return f"{told} {check_by_sum(told) if check is None else check}\n"

        good = line(1, "a")
        self.assertEqual(Log.torn(good + line(2, "b")), (Log(["a", "b"]), 2))
        for bad in (line(3, "b"), line(1, "b"), line("02", "b"), line("+2", "b"), line("", "b"), line(2, ""), line(2, " b"), line(2, "b "),
                    line(2, "b")[:-1], line(2, "b").replace("\n", " \n"), " " + line(2, "b"), line(2, "b", "0000"), line(2, "b", "219"),
                    line(2, "b", check_by_sum("2 b") + "0"), line(2, "b", "0" + check_by_sum("2 b")), "\n", "2 b\n", "b\n", "2\n",
                    line(2, "b" * 401), line(2, "b", str(int(check_by_sum("2 b"))))):
            if bad != line(2, "b"):
                self.assertEqual(Log.torn(good + bad + line(3, "c")), (Log(["a"]), 1), bad)
        # A check with a 0 at its beginning has four figures.
        number = next(number for number in range(1, 300) if check_by_sum(f"{number} a").startswith("0"))
        sheet = sheet_by_rule(["a"] * number)
        self.assertEqual(Log.torn(sheet)[1], number)
        lines = sheet.split("\n")[:-1]
        lines[-1] = lines[-1][:-4] + lines[-1][-3:]
        self.assertEqual(Log.torn("\n".join(lines) + "\n")[1], number - 1)


if __name__ == "__main__":
    unittest.main()
