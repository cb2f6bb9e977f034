"""Logs of what was done, and their sheets, of which a good beginning is found wherever they are torn."""

from lateledger.errors import InvalidEntries, InvalidEntry, InvalidNumber, TooMany
from lateledger.faults import InvalidLog, InvalidRecord, InvalidText
from lateledger.numerals import count_in
from lateledger.words import is_count, is_integer, is_list

MOST_ENTRIES = 300
MOST_SIGNS = 400
ALL = "all"
# The number of the percent sign, which is in no record.
PERCENT = 37
# A prime greater than the places of signs in lines and in the row of all signs.
PRIME = 9973


def _is_sign(sign):
    return " " <= sign <= "~" and ord(sign) != PERCENT


def is_record(value):
    """Whether any value is a record."""
    if not isinstance(value, str) or not 1 <= len(value) <= MOST_SIGNS or value != value.strip(" "):
        return False
    return value.split(" ")[0] != ALL and all([_is_sign(sign) for sign in value])


def _many_in(value):
    """How many records come behind, of any value that is `all` with their number; 0 for any other value."""
    if not isinstance(value, str) or not value.startswith(ALL + " "):
        return 0
    return count_in(value[len(ALL) + 1:]) or 0


def _place_in_row(sign):
    """The place of a sign in the row of all signs but the percent sign, counted from 1."""
    number = ord(sign)
    return number - 31 if number < PERCENT else number - 32


def _check_of(number, record):
    line = f"{number} {record}"
    total = sum([place * _place_in_row(sign) for place, sign in enumerate(line, 1)])
    return str(int(total) % PRIME).zfill(4)


def check_of(number, record):
    """The check of the line with this number and this record, or with `all` and a number in its place."""
    if not is_integer(number) or number < 1:
        raise InvalidNumber(number)
    if not is_record(record) and _many_in(record) == 0:
        raise InvalidRecord(record)
    return _check_of(number, record)


def is_log_entry(value):
    """Whether any value is a record, or a tuple of one or more."""
    if isinstance(value, tuple):
        return len(value) > 0 and all([is_record(record) for record in value])
    return is_record(value)


def records_of(entry):
    """The list of the records of an entry."""
    return list(entry) if isinstance(entry, tuple) else [entry]


def _lines_of(entry):
    """What the lines of an entry tell."""
    return [f"{ALL} {len(entry)}", *entry] if isinstance(entry, tuple) else [entry]


def _contents_of(text):
    """What the lines of a text tell, up to the first one that is not as it should be."""
    told = []
    for number, line in enumerate(text.split("\n")[:-1], 1):
        head, _, check = line.rpartition(" ")
        first, _, content = head.partition(" ")
        if first != str(number) or not (is_record(content) or _many_in(content) > 0):
            return told
        if check != _check_of(number, content):
            return told
        told.append(content)
    return told


class Log:
    """What was done: records, and tuples of records that stand or fall together. It never changes."""

    def __init__(self, entries=()):
        if not is_list(entries):
            raise InvalidEntries(None)
        for position, entry in enumerate(entries):
            if not is_log_entry(entry):
                raise InvalidEntries(position)
        if len(entries) > MOST_ENTRIES:
            raise TooMany("entries", MOST_ENTRIES)
        self._entries = list(entries)

    def entries(self):
        """The list of the entries."""
        return list(self._entries)

    def records(self):
        """The list of all records, those of tuples in their sequence."""
        return [record for entry in self._entries for record in records_of(entry)]

    def sheet(self):
        """The sheet: a line for each record, and one ahead of those of a tuple."""
        contents = [content for entry in self._entries for content in _lines_of(entry)]
        return "".join([f"{number} {told} {_check_of(number, told)}\n" for number, told in enumerate(contents, 1)])

    def first(self, many):
        """The Log of the first so many entries."""
        if not is_count(many) or many > len(self._entries):
            raise InvalidNumber(many)
        return Log(self._entries[:many])

    def behind(self, other):
        """The list of the entries behind those of another Log, None if this one does not begin with them."""
        if not isinstance(other, Log):
            raise InvalidLog(other)
        ahead = other.entries()
        return self._entries[len(ahead):] if self._entries[:len(ahead)] == ahead else None

    @staticmethod
    def read(value):
        """The Log whose sheet any value is, None if there is none."""
        if not isinstance(value, str):
            return None
        log = Log.torn(value)[0]
        return log if log.sheet() == value else None

    @staticmethod
    def torn(text):
        """The tuple of the good beginning of a string, a Log, and the number of its lines."""
        if not isinstance(text, str):
            raise InvalidText(None)
        contents, entries, lines = _contents_of(text), [], 0
        while lines < len(contents) and len(entries) < MOST_ENTRIES:
            many = _many_in(contents[lines])
            records = contents[lines + 1:lines + 1 + many]
            if len(records) < many or not all([is_record(record) for record in records]):
                return (Log(entries), lines)
            entries.append(tuple(records) if many > 0 else contents[lines])
            lines = lines + 1 + many
        return (Log(entries), lines)

    def __add__(self, other):
        if not is_log_entry(other):
            raise InvalidEntry(other)
        return Log([*self._entries, other])

    def __len__(self):
        return len(self._entries)

    def __contains__(self, value):
        return isinstance(value, str) and value in self.records()

    def __iter__(self):
        return iter(self._entries)

    def __eq__(self, other):
        return isinstance(other, Log) and self._entries == other._entries

    def __repr__(self):
        return f"Log({self._entries!r})"
