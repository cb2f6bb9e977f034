"""Desks: halls that are led by commands, with kept reports, and a log from which they are recovered."""

from lateledger.accounts import Chart
from lateledger.checks import check_parts
from lateledger.closing import Hall
from lateledger.commands import UNDO, answer, check_words, words_of
from lateledger.errors import InvalidName, InvalidReport, LedgerError, LimitError, MissingError, NameTaken, StateError
from lateledger.errors import TooMany
from lateledger.facts import COIN, TELL
from lateledger.faults import CommandFailed, InvalidCommand, InvalidText, NothingToUndo, UnknownName
from lateledger.log import MOST_ENTRIES, Log, is_record, records_of
from lateledger.steps import HALL, OUTSIDE, coin_account, cover_account, goods_account, owed_account
from lateledger.texts import deed_for, written
from lateledger.weighing import MOST_REPORTS, is_report
from lateledger.words import is_among, is_name


def _chart_of(hall):
    accounts = [HALL, OUTSIDE]
    for house in hall.houses():
        accounts.extend([house, goods_account(house), coin_account(house), owed_account(house), cover_account(house)])
    return Chart(accounts, hall.goods() + [COIN])


class Desk:
    """A hall with kept reports that takes commands. It changes by these, and by reports that are kept."""

    def __init__(self, houses, goods, days):
        # What is kept here is never changed, but gives way to something new, so that it can be taken back.
        self._hall = Hall(houses, goods, days)
        self._reports = {}
        self._entries = []
        self._chart = _chart_of(self._hall)

    @property
    def chart(self):
        """The Chart of the kept reports."""
        return self._chart

    def hall(self):
        """A copy of the hall."""
        return self._hall.copy()

    def names(self):
        """The sorted list of the names of the kept reports."""
        return sorted(self._reports)

    def do(self, command):
        """Do a command: the answer."""
        told, is_logged = self._answered(command)
        if is_logged:
            self._entries = self._entries + [command]
        return told

    def do_all(self, *commands):
        """Do some commands, all or none: the list of the answers."""
        hall, answers, records = self._hall, [], []
        for position, command in enumerate(commands):
            try:
                told, is_logged = self._answered(command)
            except (LedgerError, MissingError, StateError, LimitError) as error:
                self._hall = hall
                raise CommandFailed(position) from error
            answers.append(told)
            if is_logged:
                records.append(command)
        if len(records) > 0:
            self._entries = self._entries + [tuple(records)]
        return answers

    def _answered(self, command):
        """Do a command, but for the log: the answer, and whether the log gets it."""
        if not is_record(command):
            raise InvalidCommand(command)
        deed = deed_for(self._hall, command)
        if deed is not None:
            return self._done(deed), True
        words = words_of(command)
        if words[0] == UNDO:
            return self._undone(), True
        check_words(words, self._hall, self._chart, self._reports)
        return answer(words, self._hall, self._chart, self._reports), False

    def _done(self, deed):
        hall = self._hall.copy()
        told = len(hall.tell(deed[1])) if deed[0] == TELL else hall.close(deed[1])
        self._check_entries()
        self._hall = hall
        return str(told)

    def _undone(self):
        if len(self._hall) == 0:
            raise NothingToUndo()
        self._check_entries()
        last = self._hall.deeds()[-1]
        self._hall = self._hall.as_known(len(self._hall) - 1)
        return written(last)

    def _check_entries(self):
        if len(self._entries) >= MOST_ENTRIES:
            raise TooMany("entries", MOST_ENTRIES)

    def log(self):
        """The Log of what was done."""
        return Log(self._entries)

    @classmethod
    def recovered(cls, houses, goods, days, text):
        """The tuple of a Desk that has done the entries of the good beginning of a string, and how many."""
        check_parts(houses, goods, days)
        if not isinstance(text, str):
            raise InvalidText(None)
        desk, many = cls(houses, goods, days), 0
        for entry in Log.torn(text)[0].entries():
            if not desk._takes(entry):
                return (desk, many)
            many = many + 1
        return (desk, many)

    def _takes(self, entry):
        """Do an entry of a log if all its records are lines of deeds or `undo` and none fails: whether it is done."""
        if not all([record == UNDO or deed_for(self._hall, record) is not None for record in records_of(entry)]):
            return False
        try:
            if isinstance(entry, tuple):
                self.do_all(*entry)
            else:
                self.do(entry)
        except (LedgerError, MissingError, StateError, LimitError):
            return False
        return True

    def __call__(self, command):
        return self.do(command)

    def __iadd__(self, other):
        self.do(other)
        return self

    def __getitem__(self, name):
        if not is_among(self._reports, name):
            raise UnknownName(name)
        return {place: self._reports[name][place] for place in sorted(self._reports[name])}

    def __setitem__(self, name, report):
        if not is_name(name):
            raise InvalidName(name)
        if name in self._reports:
            raise NameTaken(name)
        if not is_report(self._chart, report):
            raise InvalidReport(report)
        if len(self._reports) >= MOST_REPORTS:
            raise TooMany("reports", MOST_REPORTS)
        self._reports = {**self._reports, name: {place: number for place, number in report.items()}}

    def __contains__(self, value):
        return is_among(self._reports, value)

    def __iter__(self):
        raise TypeError("a desk is not iterated over")

    def __len__(self):
        return len(self._hall)


class Trial:
    """A block `with` behind which all of a desk is as it was ahead of it."""

    def __init__(self, desk):
        self._desk = desk
        self._hall = None
        self._reports = None
        self._entries = None

    def __enter__(self):
        self._hall = self._desk._hall
        self._reports = self._desk._reports
        self._entries = self._desk._entries
        return self._desk

    def __exit__(self, kind, value, trace):
        self._desk._hall = self._hall
        self._desk._reports = self._reports
        self._desk._entries = self._entries


def tried(desk, action):
    """What a function returns for the desk, which is then as it was."""
    with Trial(desk) as held:
        return action(held)
