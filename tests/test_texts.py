"""[91] and lateledger/texts.py."""

import unittest
from random import Random

from lateledger.closing import Hall
from lateledger.errors import TooMany
from lateledger.faults import InvalidDeed, InvalidHall, InvalidText, KnownId
from lateledger.texts import bytes_of, deed_in, line_of, read_hall, text_of
from tests.late import some_market, told
from tests.support import GREAT, Checks, strange_values, values_of_every_kind
from tests.test_closing import hall_of, some_deeds, tells
from tests.test_days import NINE, orders
from tests.test_deeds import some_deed

TOWN = hall_of(goods=("oil", "tea"))
LINES = [
    ("tell a 1 transfer ann oil -3", ("tell", ("a", 1, "transfer", "ann", "oil", -3))),
    ("tell abcdefgh 3 transfer ben coin 7", ("tell", ("abcdefgh", 3, "transfer", "ben", "coin", 7))),
    ("tell b 2 order ben 5 2 oil 1", ("tell", ("b", 2, "order", "ben", {"oil": 1}, 5, 2))),
    ("tell b 2 order ben -5 2 oil -1 tea 20", ("tell", ("b", 2, "order", "ben", {"oil": -1, "tea": 20}, -5, 2))),
    ("tell c 1 line ann ben 0 1000", ("tell", ("c", 1, "line", "ann", "ben", 0, 1000))),
    ("tell d 1 move oil - -3", ("tell", ("d", 1, "move", "oil", None, -3))),
    ("tell d 1 move - tea 0", ("tell", ("d", 1, "move", None, "tea", 0))),
    ("tell d 1 move tea oil 12", ("tell", ("d", 1, "move", "tea", "oil", 12))),
    ("tell e 3 future dry oil 1 tea -4", ("tell", ("e", 3, "future", "dry", {"oil": 1, "tea": -4}))),
    ("tell q 1 quote - -3 oil 2", ("tell", ("q", 1, "quote", {"oil": 2}, None, -3))),
    ("tell q 1 quote 4 - oil 2", ("tell", ("q", 1, "quote", {"oil": 2}, 4, None))),
    ("tell q 1 quote 0 0 tea 1", ("tell", ("q", 1, "quote", {"tea": 1}, 0, 0))),
    ("tell s strike q", ("tell", ("s", "strike", "q"))),
    ("tell strike strike tell", ("tell", ("strike", "strike", "tell"))),
    ("tell strike 1 transfer ann oil 3", ("tell", ("strike", 1, "transfer", "ann", "oil", 3))),
    ("close 3", ("close", 3)),
]
WRONG = [
    "", " ", "close", "close ", "close 0", "close 4", "close 03", "close +3", "close 3 ", " close 3", "close  3", "close 3\n", "close -3",
    "close 3 3", "Close 3", "close x", "close -", "tell", "tell ", "tell a", "tell a 1", "tell a 1 transfer", "close" + "\t" + "3",
    "tell  a 1 transfer ann oil -3", "tell a 1 transfer ann oil  -3", "tell a 1 transfer ann oil -3 ", "tell a 1 transfer ann oil 03",
    "tell a 1 transfer ann oil -03", "tell a 1 transfer ann oil -0", "tell a 1 transfer ann oil 0", "tell a 1 transfer ann oil +3",
    "tell a 1 transfer ann oil -", "tell a 1 transfer ann oil --3", "tell a 1 transfer ann oil 3-", "tell a 1 transfer ann oil 3/1",
    "tell a 1 transfer ann oil", "tell a 1 transfer ann oil 3 4", "tell a 1 transfer ann rye 3", "tell a 1 transfer cy oil 3",
    "tell a 1 transfer oil ann 3", "tell a 1 transfer - oil 3", "tell a 1 transfer ann - 3", "tell a 4 transfer ann oil 3",
    "tell a 0 transfer ann oil 3", "tell a 01 transfer ann oil 3", "tell A 1 transfer ann oil 3", "tell a transfer 1 ann oil 3",
    "tell - 1 transfer ann oil 3", "tell a - transfer ann oil 3", "told a 1 transfer ann oil 3", "a 1 transfer ann oil 3",
    "tell b 2 order ben 5 2", "tell b 2 order ben 5 2 oil", "tell b 2 order ben 5 2 oil 0", "tell b 2 order ben 5 2 tea 1 oil 1",
    "tell b 2 order ben 5 2 oil 1 oil 1", "tell b 2 order ben 5 2 oil 1 tea 0", "tell b 2 order ben 5 2 oil 1 tea",
    "tell b 2 order ben 5 2 oil 01", "tell b 2 order ben 5 0 oil 1", "tell b 2 order ben 5 -1 oil 1", "tell b 2 order ben - 2 oil 1",
    "tell b 2 order ben 5 2 rye 1", "tell b 2 order ben oil 1 5 2", "tell b 2 order ben 5 oil 1 2", "tell b 2 order ben 5 2 - 1",
    "tell c 1 line ann ann 0 0", "tell c 1 line ann ben 0 1001", "tell c 1 line ann ben -1 0", "tell c 1 line ann ben 0",
    "tell c 1 line ann ben 0 0 0", "tell c 1 line - ben 0 0", "tell d 1 move - - 3", "tell d 1 move oil oil 3", "tell d 1 move oil - -",
    "tell d 1 move oil -", "tell d 1 move oil - 3 4", "tell e 3 future dry", "tell e 3 future dry oil 0", "tell e 3 future - oil 1",
    "tell e 3 future dry tea 1 oil 1", "tell e 3 future dry oil 1 rye 1", "tell q 1 quote - - oil 2", "tell q 1 quote 4 oil 2",
    "tell q 1 quote 4 -", "tell q 1 quote 4 - oil", "tell q 1 quote -0 - oil 2", "tell q 1 quote 04 - oil 2", "tell q 1 quote oil 2 4 -",
    "tell s strike s", "tell s strike", "tell s strike q r", "tell s strike -", "tell s 1 strike q", "tell s Strike q", "tell s strike 1",
]


class TextsTest(Checks, unittest.TestCase):
    def test_lines(self):
        for line, deed in LINES:
            self.assert_same(line_of(TOWN, deed), line)
            self.assert_same(deed_in(TOWN, line), deed)
            self.assert_same(deed_in(hall=TOWN, value=line_of(hall=TOWN, deed=deed)), deed)
            self.assert_all_new(lambda: deed_in(TOWN, line))
        for deed in [("tell", ("b", 2, "order", "ben", {"tea": 20, "oil": -1}, -5, 2))]:
            self.assert_same(line_of(TOWN, deed), LINES[3][0])
        self.assert_same(line_of(TOWN, ("tell", ("e", 3, "future", "dry", {"tea": 4, "oil": 0}))), "tell e 3 future dry tea 4")

    def test_what_is_no_line(self):
        for line in WRONG:
            self.assertIsNone(deed_in(TOWN, line), line)
        for value in values_of_every_kind() + strange_values("close 3") + [b"close 3", ["close", "3"], ("close", 3), LINES[0][1]]:
            self.assertIsNone(deed_in(TOWN, value))
        self.assertIsNone(deed_in(hall_of(days=2), "close 3"))
        self.assertIsNone(deed_in(hall_of(), "tell d 1 move - tea 0"))

    def test_words_bent_at_each_place(self):
        for line, deed in LINES:
            words = line.split(" ")
            for at in range(len(words)):
                for other in (words[:at] + words[at + 1:], words[:at] + [words[at]] * 2 + words[at + 1:],
                              words[:at] + [words[at], ""] + words[at + 1:], words[:at] + ["-0"] + words[at + 1:],
                              words[:at] + ["0" + words[at]] + words[at + 1:], words[:at] + [words[at].upper() + "X"] + words[at + 1:],
                              words[:at] + ["'" + words[at] + "'"] + words[at + 1:]):
                    found = deed_in(TOWN, " ".join(other))
                    if found is not None:
                        self.assertNotEqual(found, deed)
                        self.assertEqual(line_of(TOWN, found), " ".join(other))

    def test_digits(self):
        great, greater = str(GREAT), str(GREAT + 1)
        self.assertEqual([len(great), len(greater)], [30, 31])
        for sign in ("", "-"):
            number = int(sign + great)
            self.assert_same(deed_in(TOWN, f"tell a 1 transfer ann oil {sign}{great}"), ("tell", ("a", 1, "transfer", "ann", "oil", number)))
            self.assert_same(deed_in(TOWN, f"tell b 2 order ben {sign}{great} {great} oil {sign}{great}"),
                             ("tell", ("b", 2, "order", "ben", {"oil": number}, number, GREAT)))
            for line in (f"tell a 1 transfer ann oil {sign}{greater}", f"tell b 2 order ben {sign}{greater} 1 oil 1",
                         f"tell b 2 order ben 1 1 oil {sign}{greater}", f"tell q 1 quote - {sign}{greater} oil 2",
                         f"tell q 1 quote {sign}{greater} - oil 2", f"tell d 1 move oil - {sign}{greater}"):
                self.assertIsNone(deed_in(TOWN, line))
        self.assertIsNone(deed_in(TOWN, "close " + "0" * 30 + "3"))

    def test_some_lines(self):
        source = Random(911)
        for _ in range(300):
            houses, goods, days = some_market(source)
            hall = Hall(houses, goods, days)
            word, what = some_deed(source, houses, goods, days)
            line = line_of(hall, (word, what))
            self.assert_same(deed_in(hall, line), (word, told(what) if word == "tell" else what))
            self.assertLessEqual(len(line), 400)
            self.assertEqual(line.split(), line.split(" "))

    def test_texts(self):
        source = Random(912)
        for _ in range(60):
            houses, goods, days = some_market(source)
            hall = Hall(houses, goods, days, some_deeds(source, houses, goods, days))
            text = text_of(hall)
            lines = [f"hall {days}", "houses " + " ".join(sorted(houses)), "goods " + " ".join(sorted(goods))]
            self.assertEqual(text, "".join(line + "\n" for line in lines + [line_of(hall, deed) for deed in hall.deeds()]))
            self.assertIsInstance(bytes_of(hall), bytes)
            self.assertEqual(bytes_of(hall=hall), text.encode("ascii"))
            again = read_hall(text=text)
            self.assertEqual(again, hall)
            self.assert_same(again.deeds(), hall.deeds())
            self.assert_same(text_of(hall=again), text)
        idle = hall_of(tells(orders(1)) * 2 + [("close", 2), ("close", 1)])
        self.assertEqual(text_of(idle).count("\n"), 7)
        self.assertEqual(len(read_hall(text_of(idle))), 4)
        self.assertEqual(repr(read_hall("hall 12\nhouses a\ngoods b\n")), "Hall(['a'], ['b'], 12)")
        eight = " ".join(NINE[:8])
        self.assertEqual(len(read_hall(f"hall 1\nhouses {eight}\ngoods coal oil rye tea\n").houses()), 8)

    def assert_wrong(self, text, line):
        self.assert_raises(InvalidText, {"line": line}, read_hall, text)

    def test_wrong_heads(self):
        for text, line in (("", 1), ("\n", 1), ("hall 2", 1), ("hall 2\n", 2), ("hall 2\nhouses ann", 2), ("hall 2\nhouses ann\n", 3),
                           ("hall 2\nhouses ann\ngoods oil", 3), ("hall 2\n\n", 2), ("hall 2\nhouses ann\n\n", 3),
                           ("houses ann\nhall 2\ngoods oil\n", 1), ("hall 2\ngoods oil\nhouses ann\n", 2), ("hall 2\nclose 1\n", 2)):
            self.assert_wrong(text, line)
        for first in ("hall", "hall ", "hall 0", "hall 13", "hall 02", "hall -2", "hall x", "hall 2 ", " hall 2", "hall  2", "hall 2 2",
                      "Hall 2", "halls 2", "2", "hall " + "1" * 31):
            self.assert_wrong(first + "\nhouses ann\ngoods oil\n", 1)
            self.assert_wrong(first + "\nwrong", 1)
        for second in ("houses", "houses ", "houses ben ann", "houses ann ann", "houses coin", "houses ann hall", "houses outside",
                       "houses Ann", "houses ann ", "houses  ann", "houses ann  ben", " houses ann", "house ann", "houses abcdefghi",
                       "houses a.b", "houses 1", "houses " + " ".join(NINE)):
            self.assert_wrong(f"hall 2\n{second}\ngoods oil\n", 2)
            self.assert_wrong(f"hall 2\n{second}", 2)
        for third in ("goods", "goods ", "goods tea oil", "goods oil oil", "goods coin", "goods hall", "goods oil outside", "goods Oil",
                      "goods oil ", "goods  oil", "good oil", "goods ann", "goods ann oil", "goods oil ann", "goods a b c d e"):
            self.assert_wrong(f"hall 2\nhouses ann\n{third}\n", 3)
            self.assert_wrong(f"hall 2\nhouses ann\n{third}\nclose 9\n", 3)

    def test_the_wrong_line_of_a_deed(self):
        head = "hall 3\nhouses ann ben\ngoods oil tea\n"
        for line in WRONG:
            if "\n" not in line:
                self.assert_wrong(f"{head}{line}\nclose 1\n", 4)
                self.assert_wrong(f"{head}close 1\n{line}\nwrong", 5)
        # Deeds that would be refused, idle ones may stand.
        told_one = "tell a 1 transfer ann oil 3\n"
        self.assert_wrong(head + told_one * 3 + "tell a 1 transfer ann oil 4\nwrong", 7)
        self.assertEqual(len(read_hall(head + told_one * 3 + "close 1\nclose 1\n")), 5)
        many = "".join(line_of(TOWN, deed) + "\n" for deed in tells(orders(14)))
        self.assert_wrong(head + many, 16)
        self.assert_raises(TooMany, {"what": "orders", "allowed": 12}, hall_of, tells(orders(14)))
        self.assert_raises(KnownId, {"value": "a"}, hall_of, [LINES[0][1], ("tell", ("a", "strike", "b"))])
        # No line feed at the end, an empty line, more than one line feed.
        self.assert_wrong(head + told_one + "close 1", 5)
        self.assert_wrong(head + told_one[:-1], 4)
        self.assert_wrong(head + "\n" + told_one, 4)
        self.assert_wrong(head + told_one + "\n", 5)
        self.assert_wrong(head + "wrong\nclose 1", 4)

    def test_texts_bent_at_each_place(self):
        source = Random(913)
        for _ in range(12):
            houses, goods, days = some_market(source)
            hall = Hall(houses, goods, days, some_deeds(source, houses, goods, days))
            lines = text_of(hall).split("\n")[:-1]
            for at in range(len(lines)):
                others = [lines[:at] + lines[at + 1:], lines[:at] + [lines[at]] * 2 + lines[at + 1:],
                          lines[:at] + lines[at:at + 2][::-1] + lines[at + 2:], lines[:at] + [lines[at] + " X"] + lines[at + 1:]]
                for other in others:
                    self.check_bent(hall, other)
                self.assert_wrong("\n".join(lines[:at + 1]), at + 1)

    def check_bent(self, hall, lines):
        """That a text of these lines is read line by line, or has just the wrong line that comes first."""
        if lines[:3] != text_of(hall).split("\n")[:3]:
            self.assert_raises(InvalidText, {"line": self.first_wrong_of_head(hall, lines)}, read_hall, "".join(line + "\n" for line in lines))
            return
        new = Hall(hall.houses(), hall.goods(), hall.days)
        for number, line in enumerate(lines[3:], 4):
            deed = deed_in(new, line)
            try:
                new = Hall(new.houses(), new.goods(), new.days, new.deeds() + [deed])
            except (ValueError, RuntimeError, ArithmeticError):
                self.assert_wrong("".join(line + "\n" for line in lines), number)
                return
        self.assertEqual(read_hall("".join(line + "\n" for line in lines)), new)

    def first_wrong_of_head(self, hall, lines):
        wanted = text_of(hall).split("\n")[:3]
        return [at for at in range(4) if (lines + [None])[:4][at:at + 1] != wanted[at:at + 1]][0] + 1

    def test_errors(self):
        for value in values_of_every_kind():
            for call in (lambda: line_of(value, None), lambda: deed_in(value, "close 1"), lambda: text_of(value), lambda: bytes_of(value)):
                self.assert_keeps(InvalidHall, value, call)
            self.assert_keeps(InvalidDeed, value, line_of, TOWN, value)
            if not isinstance(value, str):
                self.assert_wrong(value, None)
        for value in (("tell", ["a"]), ("close", 4), "close 1", ["close", 1]):
            self.assert_keeps(InvalidDeed, value, line_of, TOWN, value)
        self.assert_wrong(b"hall 2\nhouses ann\ngoods oil\n", None)


if __name__ == "__main__":
    unittest.main()
