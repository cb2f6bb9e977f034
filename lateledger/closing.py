"""Halls: runs to which facts are told, also late, and of which days are closed."""

from lateledger.copies import copied
from lateledger.days import Run
from lateledger.errors import InvalidNumber
from lateledger.facts import CLOSE, TELL, is_day, is_deed_of, told_deed
from lateledger.faults import InvalidDay, InvalidDeeds
from lateledger.standing import BALANCES, CORRECTIONS, ENTRIES, MAKES, Standing
from lateledger.words import is_count, is_list


class Hall:
    """A run to which facts are told, and its closed days. It changes by what is told to it, and by closing."""

    def __init__(self, houses, goods, days, deeds=()):
        # Behind each deed the hall stands as the last Standing says; the first one is that ahead of all deeds.
        self._standings = [Standing(Run(houses, goods, days))]
        self._deeds = []
        if not is_list(deeds):
            raise InvalidDeeds(None)
        for position, deed in enumerate(deeds):
            if not is_deed_of(deed, houses, goods, days):
                raise InvalidDeeds(position)
        for word, what in deeds:
            if word == TELL:
                self.tell(what)
            else:
                self.close(what)

    @property
    def days(self):
        """The last day."""
        return self.run.days

    @property
    def closed(self):
        """The last closed day, 0 without one."""
        return self._standings[-1].closed

    @property
    def run(self):
        """The Run with all facts that were told."""
        return self._standings[-1].run

    def houses(self):
        """The sorted list of the houses."""
        return self.run.houses()

    def goods(self):
        """The sorted list of the goods."""
        return self.run.goods()

    def tell(self, fact):
        """Tell a fact: the list of the tuples (day, word) of the steps done anew."""
        run, anew = self.run.with_fact(fact)
        self._put((TELL, fact), self._standings[-1].with_run(run))
        return anew

    def tell_all(self, *facts):
        """Tell some facts one by one, all or none: the list of what is told of each."""
        ahead = self.copy()
        told = [ahead.tell(fact) for fact in facts]
        self._deeds = ahead._deeds
        self._standings = ahead._standings
        return told

    def close(self, day):
        """Close all days up to this one: how many are closed now that were not."""
        self._check_day(day)
        many = max(0, day - self.closed)
        self._put((CLOSE, day), self._standings[-1].shut_to(day))
        return many

    def _put(self, deed, standing):
        self._deeds = self._deeds + [told_deed(deed)]
        self._standings = self._standings + [standing]

    def deeds(self):
        """The list of all deeds that were done, idle ones too."""
        return copied(self._deeds)

    def as_known(self, many):
        """The Hall that did the first so many of the deeds."""
        if not is_count(many) or many > len(self._deeds):
            raise InvalidNumber(many)
        told = Hall(self.houses(), self.goods(), self.days)
        told._deeds = self._deeds[:many]
        told._standings = self._standings[:many + 1]
        return told

    def copy(self):
        """An equal Hall with the same deeds that goes its own way."""
        return self.as_known(len(self._deeds))

    def _check_day(self, day):
        if not is_day(day, self.days):
            raise InvalidDay(day)

    def _told_of(self, day, part):
        self._check_day(day)
        return copied(self._standings[-1].told_of(day)[part])

    def told(self, day):
        """The list of what is told that the steps of a day make."""
        return self._told_of(day, MAKES)

    def told_entries(self, day):
        """The list of the told entries of a day, the entry of corrections first if it is not empty."""
        corrections = self._told_of(day, CORRECTIONS)
        entries = self._told_of(day, ENTRIES)
        return entries if len(corrections) == 0 else [corrections] + entries

    def told_balances(self, day):
        """The dict of the balances that are told behind a day."""
        return self._told_of(day, BALANCES)

    def corrections(self):
        """The entry of corrections as it stands."""
        return self._standings[-1].corrections()

    def correction_of(self, day):
        """The entry of corrections that is told at the beginning of a day."""
        return self._told_of(day, CORRECTIONS)

    def __len__(self):
        return len(self._deeds)

    def __eq__(self, other):
        return isinstance(other, Hall) and self._standings[-1] == other._standings[-1]

    def __repr__(self):
        return f"Hall({self.houses()!r}, {self.goods()!r}, {self.days})"
