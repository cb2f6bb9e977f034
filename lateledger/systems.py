"""Systems: unknowns within ends, and rows of sums that equal a bound or are at most a bound."""

from lateledger.errors import InvalidEnds, InvalidPlace, InvalidRow, InvalidRows, InvalidUnknowns
from lateledger.errors import InvalidValues, TooMany
from lateledger.ratios import are_numbers, is_number, ratio_of, ratios_of, sum_of_products
from lateledger.words import is_among, is_count, is_list, is_pair, is_triple

MOST_UNKNOWNS = 16
MOST_ROWS = 24
EQUALS = "equals"
AT_MOST = "at most"


def are_ends(low, high):
    """Whether any two values are a low and a high: NUMBERS or None, the low at most the high."""
    if not all([end is None or is_number(end) for end in (low, high)]):
        return False
    return low is None or high is None or ratio_of(low).is_at_most(high)


def is_unknown(value):
    """Whether any value is a tuple of a low and a high."""
    return is_pair(value) and are_ends(value[0], value[1])


def is_row(value, many):
    """Whether any value is a row for so many unknowns."""
    if not is_triple(value):
        return False
    weights, word, bound = value
    if not is_among((EQUALS, AT_MOST), word):
        return False
    return are_numbers(weights, many) and is_number(bound)


def told_end(end):
    """An end as it is told: a Ratio or None."""
    if end is None:
        return None
    return ratio_of(end)


def told_row(row):
    """A row as it is told: with Ratios, and its weights in a new list."""
    weights, word, bound = row
    return (ratios_of(weights), word, ratio_of(bound))


def lies_within(number, low, high):
    """Whether a NUMBER lies within the ends of an unknown."""
    if low is not None and not low.is_at_most(number):
        return False
    return high is None or ratio_of(number).is_at_most(high)


def do_solve(unknowns, rows, values):
    """Whether NUMBERS, one for each unknown, lie within the ends and keep the rows, both as they are told."""
    if not all([lies_within(part, low, high) for part, (low, high) in zip(values, unknowns)]):
        return False
    for weights, word, bound in rows:
        told = sum_of_products(weights, values)
        if not told.is_at_most(bound) or (word == EQUALS and told.is_below(bound)):
            return False
    return True


def _check_unknowns(unknowns):
    if not is_list(unknowns) or not 1 <= len(unknowns) <= MOST_UNKNOWNS:
        raise InvalidUnknowns(None)
    for position, unknown in enumerate(unknowns):
        if not is_unknown(unknown):
            raise InvalidUnknowns(position)


def _check_rows(rows, many):
    if not is_list(rows):
        raise InvalidRows(None)
    for position, row in enumerate(rows):
        if not is_row(row, many):
            raise InvalidRows(position)
    if len(rows) > MOST_ROWS:
        raise TooMany("rows", MOST_ROWS)


class System:
    """One to sixteen unknowns with their ends, and at most 24 rows. It never changes."""

    def __init__(self, unknowns, rows=()):
        _check_unknowns(unknowns)
        _check_rows(rows, len(unknowns))
        self._unknowns = [(told_end(low), told_end(high)) for low, high in unknowns]
        self._rows = [told_row(row) for row in rows]

    def unknowns(self):
        """The list of the tuples (low, high)."""
        return list(self._unknowns)

    def rows(self):
        """The list of the tuples (weights, word, bound)."""
        return [told_row(row) for row in self._rows]

    def bounded(self, place, low, high):
        """The System with these ends of the unknown at a place."""
        if not is_count(place) or place >= len(self._unknowns):
            raise InvalidPlace(place)
        if not are_ends(low, high):
            raise InvalidEnds((low, high))
        unknowns = self.unknowns()
        unknowns[place] = (low, high)
        return System(unknowns, self._rows)

    def sums(self, values):
        """The list of the sums of the rows for these values."""
        if not are_numbers(values, len(self._unknowns)):
            raise InvalidValues(values)
        return [sum_of_products(row[0], values) for row in self._rows]

    def does_solve(self, value):
        """Whether any value is a list of values that solve the system."""
        if not are_numbers(value, len(self._unknowns)):
            return False
        return do_solve(self._unknowns, self._rows, value)

    def __add__(self, other):
        if not is_row(other, len(self._unknowns)):
            raise InvalidRow(other)
        return System(self._unknowns, [*self._rows, other])

    def __len__(self):
        return len(self._unknowns)

    def __eq__(self, other):
        return isinstance(other, System) and self._unknowns == other._unknowns and self._rows == other._rows

    def __repr__(self):
        return f"System({self._unknowns!r}, {self._rows!r})"
