"""Journals: lists of entries, each of which comes to 0 in every unit."""

from lateledger.accounts import check_chart, check_place, head_of, is_place
from lateledger.errors import InvalidEntries, InvalidEntry, InvalidJournal, InvalidNumber, OtherChart, TooMany
from lateledger.ratios import Ratio, is_number, ratio_of
from lateledger.words import is_count, is_list, is_triple

MOST_ENTRIES = 300


def is_line(chart, value):
    """Whether any value is a line: an account, a unit, and an amount other than 0."""
    if not is_triple(value) or not is_place(chart, value[:2]) or not is_number(value[2]):
        return False
    return ratio_of(value[2]).sign != 0


def _are_lines_of_entry(lines):
    ahead = {}
    amounts = {}
    for account, unit, amount in lines:
        if (account, unit) in ahead:
            return False
        ahead[(account, unit)] = True
        amounts[unit] = ratio_of(amount) + amounts.get(unit, 0)
    return all([amount.sign == 0 for amount in list(amounts.values())])


def is_entry(chart, value):
    """Whether any value is an entry of the chart."""
    check_chart(chart)
    if not is_list(value) or len(value) == 0:
        return False
    return all([is_line(chart, line) for line in value]) and _are_lines_of_entry(value)


def lines_of(amounts):
    """The sorted lines of the amounts, a dict from tuples (account, unit), without those of 0."""
    return [(account, unit, amounts[(account, unit)]) for account, unit in sorted(without_nought(amounts))]


def without_nought(ratios):
    """The dict of the Ratios that are not 0, its keys sorted."""
    return {place: ratios[place] for place in sorted(ratios) if ratios[place].sign != 0}


def told_entry(entry):
    """An entry as it is told: a new list, sorted, with Ratios."""
    return lines_of({(account, unit): ratio_of(amount) for account, unit, amount in entry})


def check_journal(journal):
    """InvalidJournal unless the value is a Journal."""
    if not isinstance(journal, Journal):
        raise InvalidJournal(journal)


class Journal:
    """The entries of a chart, in their sequence. It never changes."""

    def __init__(self, chart, entries=()):
        check_chart(chart)
        if not is_list(entries):
            raise InvalidEntries(None)
        for position, entry in enumerate(entries):
            if not is_entry(chart, entry):
                raise InvalidEntries(position)
        if len(entries) > MOST_ENTRIES:
            raise TooMany("entries", MOST_ENTRIES)
        self._chart = chart
        self._entries = [told_entry(entry) for entry in entries]

    @property
    def chart(self):
        """The chart of the journal."""
        return self._chart

    def entries(self):
        """The list of the entries."""
        return [list(entry) for entry in self._entries]

    def joined(self, other):
        """The Journal with the entries of another one behind its own."""
        check_journal(other)
        if other.chart != self._chart:
            raise OtherChart()
        return Journal(self._chart, self._entries + other.entries())

    def turned(self):
        """The Journal with the signs of all amounts turned, the last entry first."""
        turned = [[(account, unit, -amount) for account, unit, amount in entry] for entry in self._entries]
        return Journal(self._chart, turned[::-1])

    def first(self, count):
        """The Journal of the first so many entries."""
        if not is_count(count) or count > len(self._entries):
            raise InvalidNumber(count)
        return Journal(self._chart, self._entries[:count])

    def own(self, account, unit):
        """The own balance of an account in a unit."""
        check_place(self._chart, account, unit)
        return Ratio.total([line[2] for entry in self._entries for line in entry if line[:2] == (account, unit)])

    def balance(self, account, unit):
        """The balance of an account, with those below it, in a unit."""
        check_place(self._chart, account, unit)
        accounts = [account] + self._chart.below(account)
        return Ratio.total([self.own(one, unit) for one in accounts])

    def own_balances(self):
        """The dict from tuples (account, unit) to the own balances that are not 0."""
        return without_nought(self._sums())

    def _sums(self):
        sums = {}
        for entry in self._entries:
            for account, unit, amount in entry:
                sums[(account, unit)] = amount + sums.get((account, unit), 0)
        return sums

    def balances(self):
        """The dict from tuples (account, unit) to the balances that are not 0."""
        balances = {}
        for (account, unit), amount in self._sums().items():
            above = account
            while above is not None:
                balances[(above, unit)] = amount + balances.get((above, unit), 0)
                above = head_of(above)
        return without_nought(balances)

    def in_one(self):
        """The lines of one entry with the same own balances, [] if there are none."""
        return lines_of(self._sums())

    def __add__(self, other):
        if not is_entry(self._chart, other):
            raise InvalidEntry(other)
        return Journal(self._chart, [*self._entries, other])

    def __len__(self):
        return len(self._entries)

    def __getitem__(self, position):
        if not is_count(position) or position >= len(self._entries):
            raise InvalidNumber(position)
        return list(self._entries[position])

    def __iter__(self):
        raise TypeError("a journal is not iterated over")

    def __eq__(self, other):
        return isinstance(other, Journal) and self._chart == other._chart and self._entries == other._entries

    def __repr__(self):
        return f"Journal({self._chart!r}, {self._entries!r})"
