"""[1] to [4] over the whole program: what comes late, however it comes, over halls, desks, sheets and texts."""

import unittest
from random import Random

from lateledger.claims import is_paper, is_true, paper_of
from lateledger.closing import Hall
from lateledger.days import Run
from lateledger.deeds import do_agree, do_part_at, parting
from lateledger.desk import Desk, tried
from lateledger.log import Log
from lateledger.meet import how_many_ends, lean, met, ran
from lateledger.quarrels import are_best, least_cover, matching, quarrels
from lateledger.texts import deed_in, line_of, read_hall, text_of
from tests.late import GOODS, HOUSES, KINDS, WORDS, some_busy_facts, some_fact, steps_by_sums
from tests.papers import is_paper_by_sums
from tests.support import Checks
from tests.test_deeds import do_agree_by_rule, parts

MARKET = (HOUSES[:3], GOODS[:2], 3)


def facts_of_all_words(source):
    """Facts of which many meet, and some of each word."""
    facts = some_busy_facts(source, *MARKET, 5)
    facts += [some_fact(source, *MARKET, "x" + key, word) for key, word in zip("abcdefg", KINDS)]
    if facts:
        facts.append(("xs", "strike", source.choice(facts)[0]))
    return source.sample(facts, len(facts))


def told_open(hall, day):
    """What is told of an open day but for the entry of corrections."""
    return [hall.told(day), hall.told_entries(day)[hall.correction_of(day) != []:], hall.told_balances(day)]


def all_told(hall):
    return [[hall.correction_of(day), hall.told(day), hall.told_entries(day), hall.told_balances(day)] for day in range(1, hall.days + 1)]


class WholeTest(Checks, unittest.TestCase):
    def test_in_time(self):
        """Facts agree in every sequence, over whatever closings, and each told number of an open day is that in time."""
        source = Random(41)
        for _ in range(12):
            facts = facts_of_all_words(source)
            steps = steps_by_sums(*MARKET, facts)
            wanted = Run(*MARKET, facts)
            for _ in range(4):
                late = source.sample(facts, len(facts))
                hall, run = Hall(*MARKET), Run(*MARKET)
                for fact in late:
                    hall.tell(fact)
                    run = run.with_fact(fact)[0]
                    if source.random() < 0.1:
                        hall.close(source.randint(1, 2))
                self.assertEqual(run, wanted)
                self.assertEqual(hall.run, wanted)
                for day in range(1, 4):
                    self.assertEqual([run.makes(day, word) for word in WORDS], [steps[day, word][1] for word in WORDS])
                    if day > hall.closed:
                        self.assertEqual(told_open(hall, day), [[steps[day, word][1] for word in WORDS],
                                                                [entry for word in WORDS for entry in steps[day, word][2]],
                                                                steps[day, "call"][1]])

    def test_over_a_desk_its_sheet_and_its_text(self):
        source = Random(42)
        for _ in range(10):
            facts = facts_of_all_words(source)
            hall, desk = Hall(*MARKET), Desk(*MARKET)
            for fact in facts:
                deed = ("tell", fact) if source.random() < 0.85 else ("close", source.randint(1, 3))
                line = line_of(hall, deed)
                self.assertEqual(line_of(hall, deed_in(hall, line)), line)
                hall.tell(fact) if deed[0] == "tell" else hall.close(deed[1])
                # What is taken back leaves nothing behind, in a trial or by undo.
                kept = text_of(desk.hall())
                tried(desk, lambda held: held.do_all(line, "undo", line, "close 3"))
                desk.do_all(line, "undo")
                self.assertEqual(text_of(desk.hall()), kept)
                desk.do(line)
            again = Desk.recovered(*MARKET, desk.log().sheet())[0]
            read = read_hall(text_of(again.hall()))
            for other in (desk.hall(), again.hall(), read, read.copy(), read.as_known(len(read)), ran(Hall(*MARKET), hall.deeds()[:24])):
                if len(other) == len(hall):
                    self.assertEqual(other, hall)
                    self.assertEqual(all_told(other), all_told(hall))
                    self.assertEqual(text_of(other), text_of(hall))
            self.assertEqual(again.log(), desk.log())
            self.assertEqual(Log.read(desk.log().sheet()), desk.log())
            for _ in range(len(again)):
                again.do("undo")
            self.assertEqual([again.hall(), len(again)], [Hall(*MARKET), 0])
            self.assertEqual(again.log().behind(desk.log()), ["undo"] * len(desk))

    def test_no_told_number_of_a_closed_day_ever_changes(self):
        source = Random(43)
        for _ in range(10):
            facts = facts_of_all_words(source)
            hall = Hall(*MARKET)
            kept = []
            for at, fact in enumerate(facts):
                hall.tell(fact)
                if at % 5 == 4:
                    hall.close(min(3, hall.closed + 1))
                now = all_told(hall)[:hall.closed]
                self.assertEqual(now[:len(kept)], kept)
                kept = now

    def test_two_halls_that_met(self):
        source = Random(44)
        for _ in range(8):
            town = Hall(*MARKET, [("tell", fact) for fact in facts_of_all_words(source)[:6]])
            logs = []
            for _ in range(2):
                facts = facts_of_all_words(source)[:5]
                logs.append([("tell", fact) for fact in facts])
                logs[-1].insert(source.randint(0, 5), ("close", source.randint(1, 3)))
            left_out, end = met(town, *logs)
            # Each quarrel has a hall that shows it.
            for left, right in quarrels(town, *logs):
                one, other = logs[0][left], logs[1][right]
                self.assertFalse(do_agree(town, one, other) or do_agree_by_rule(one, other))
                found = parting(town, one, other)
                self.assertTrue(parts(town, one, other, found))
                self.assertTrue(do_part_at(Hall(*MARKET, found), one, other))
            self.assertTrue(are_best(town, *logs, least_cover(town, *logs), matching(town, *logs)))
            rest = [[deed for at, deed in enumerate(log) if (side, at) not in left_out] for side, log in enumerate(logs)]
            rest = [lean(town, log) for log in rest]
            self.assertEqual(end, ran(ran(town, rest[0]), rest[1]))
            self.assertEqual(how_many_ends(town, *[log[:4] for log in rest]), 1)

    def test_papers_of_runs(self):
        source = Random(45)
        for _ in range(6):
            facts = facts_of_all_words(source)
            for others in (source.sample(facts, len(facts)), facts[1:], facts + [("zz", "strike", facts[0][0])]):
                claims = [(word, *MARKET, facts, others) for word in ("alike", "unlike")]
                self.assertEqual(len([claim for claim in claims if is_true(claim)]), 1)
                for claim in claims:
                    paper = paper_of(claim)
                    self.assertEqual(paper is not None, is_true(claim))
                    if paper is not None:
                        self.assertTrue(is_paper(claim, paper) and is_paper_by_sums(claim, paper))
                        self.assertFalse(is_paper(claims[claim is claims[0]], paper))


if __name__ == "__main__":
    unittest.main()
