"""Runs: houses, goods and days with facts, all of whose days are run with all that is known."""

from lateledger.checks import check_many_facts, check_many_parts, check_parts, facts_by_id
from lateledger.copies import copied
from lateledger.course import Course, owed_by
from lateledger.facts import counting, is_day, is_fact, told_fact
from lateledger.faults import InvalidDay, InvalidFact, KnownId, UnknownId
from lateledger.steps import STEPS, check_word, entries_of
from lateledger.words import is_among


class Run:
    """Houses, goods and days with all facts that have come. It never changes."""

    def __init__(self, houses, goods, days, facts=()):
        check_parts(houses, goods, days)
        told = facts_by_id(facts, houses, goods, days)
        check_many_parts(houses, goods, days)
        check_many_facts(list(told.values()))
        self._houses = sorted(houses)
        self._goods = sorted(goods)
        self._days = days
        self._facts = {key: told[key] for key in sorted(told)}
        self._course = Course(self._houses, days, list(told.values()))

    @property
    def days(self):
        """The last day."""
        return self._days

    def houses(self):
        """The sorted list of the houses."""
        return list(self._houses)

    def goods(self):
        """The sorted list of the goods."""
        return list(self._goods)

    def with_fact(self, fact):
        """The Run with one fact more, and the list of the tuples (day, word) of the steps done anew."""
        if not is_fact(fact, self._houses, self._goods, self._days):
            raise InvalidFact(fact)
        told = told_fact(fact)
        key = told[0]
        if key in self._facts:
            if self._facts[key] != told:
                raise KnownId(key)
            return (self, [])
        facts = {**self._facts, key: told}
        check_many_facts(list(facts.values()))
        more = Run(self._houses, self._goods, self._days)
        more._facts = {one: facts[one] for one in sorted(facts)}
        more._course = Course(self._houses, self._days, list(facts.values()), self._course)
        return (more, more._course.anew())

    def facts(self):
        """The sorted list of all facts."""
        return [copied(fact) for fact in list(self._facts.values())]

    def counting(self):
        """The sorted list of the facts that count."""
        return counting(list(self._facts.values()))

    def fact(self, key):
        """The fact with an id."""
        if key not in self:
            raise UnknownId(key)
        return copied(self._facts[key])

    def _check_day(self, day):
        if not is_day(day, self._days):
            raise InvalidDay(day)

    def reads(self, day, word):
        """What a step of a day reads."""
        self._check_day(day)
        check_word(word)
        return copied(self._course.reads(day, word))

    def makes(self, day, word):
        """What a step of a day makes."""
        self._check_day(day)
        check_word(word)
        return copied(self._course.makes(day, word))

    def balances(self, day):
        """The balances behind the last step of a day."""
        return self.makes(day, "call")

    def entries(self, day):
        """The list of the entries of all steps of a day."""
        self._check_day(day)
        return [entry for word in STEPS for entry in entries_of(word, self._course.reads(day, word))]

    def owed(self, day):
        """The dict from all houses to what they owe behind a day."""
        return owed_by(self._houses, self.balances(day))

    def __contains__(self, value):
        return is_among(self._facts, value)

    def __len__(self):
        return len(self._facts)

    def __eq__(self, other):
        if not isinstance(other, Run):
            return False
        if self._houses != other._houses or self._goods != other._goods or self._days != other._days:
            return False
        return self._facts == other._facts

    def __repr__(self):
        return f"Run({self._houses!r}, {self._goods!r}, {self._days}, {self.facts()!r})"
