"""Clearings: what houses owe, the lines of trust between them, and payments over these."""

from lateledger.errors import InvalidLine, InvalidLines, InvalidOwed, InvalidPayments, TooMany, UnknownLine
from lateledger.ratios import Ratio, are_numbers, is_number, ratio_of, ratios_of, sum_of_products
from lateledger.systems import lies_within
from lateledger.words import is_among, is_count, is_list, is_name


def _is_owed(value):
    """Whether any value is a dict from one or more houses to NUMBERS that come to 0."""
    if not isinstance(value, dict) or len(value) == 0:
        return False
    if not all([is_name(house) and is_number(number) for house, number in value.items()]):
        return False
    return Ratio.total(list(value.values())).sign == 0


def _is_line(owed, value):
    """Whether any value is a line between the houses."""
    if not isinstance(value, tuple) or len(value) != 4:
        return False
    one, other, most, cost = value
    if not is_among(owed, one) or not is_among(owed, other) or one == other:
        return False
    return is_count(most) and is_count(cost)


def _check_lines(owed, lines):
    if not is_list(lines):
        raise InvalidLines(None)
    ahead = {}
    for position, line in enumerate(lines):
        if not _is_line(owed, line) or line[:2] in ahead:
            raise InvalidLines(position)
        ahead[line[:2]] = True


class Clearing:
    """What houses owe, and the lines over which it is paid. It never changes."""

    MOST_HOUSES = 8
    MOST_LINES = 24

    def __init__(self, owed, lines=()):
        if not _is_owed(owed):
            raise InvalidOwed(owed)
        _check_lines(owed, lines)
        if len(owed) > self.MOST_HOUSES:
            raise TooMany("houses", self.MOST_HOUSES)
        if len(lines) > self.MOST_LINES:
            raise TooMany("lines", self.MOST_LINES)
        self._owed = {house: ratio_of(owed[house]) for house in sorted(owed)}
        self._lines = sorted(lines)

    def houses(self):
        """The sorted list of the houses."""
        return list(self._owed)

    def owed(self):
        """The dict from the houses to what each one owes, below 0 if it is owed."""
        return {house: number for house, number in self._owed.items()}

    def lines(self):
        """The sorted list of the lines."""
        return list(self._lines)

    def all_owed(self):
        """What all houses that owe do together."""
        return Ratio.total([number for number in list(self._owed.values()) if number.sign > 0])

    def with_owed(self, owed):
        """The Clearing with the same lines in which the same houses owe something else."""
        if not _is_owed(owed) or sorted(owed) != self.houses():
            raise InvalidOwed(owed)
        return Clearing(owed, self._lines)

    def __add__(self, other):
        if not _is_line(self._owed, other):
            raise InvalidLine(other)
        return Clearing(self._owed, [line for line in self._lines if line[:2] != other[:2]] + [other])

    def __sub__(self, other):
        if other not in self:
            raise UnknownLine(other)
        return Clearing(self._owed, [line for line in self._lines if line[:2] != other[:2]])

    def __contains__(self, value):
        # A slice is a plain tuple, whatever kind of tuple it is of.
        return _is_line(self._owed, value) and value[:4] in self._lines

    def __len__(self):
        return len(self._lines)

    def __eq__(self, other):
        return isinstance(other, Clearing) and self._owed == other._owed and self._lines == other._lines

    def __repr__(self):
        return f"Clearing({self._owed!r}, {self._lines!r})"


def are_payments(clearing, value):
    """Whether any value is a list of fitting payments."""
    lines = clearing.lines()
    if not are_numbers(value, len(lines)):
        return False
    if not all([lies_within(number, Ratio(0), Ratio(line[2])) for number, line in zip(value, lines)]):
        return False
    sums = paid_by(clearing, value)
    for house, owed in clearing.owed().items():
        ends = (Ratio(0), owed) if owed.sign > 0 else (owed, Ratio(0))
        if not lies_within(sums[house], ends[0], ends[1]):
            return False
    return True


def check_payments(clearing, payments):
    """InvalidPayments unless the value is a list of fitting payments."""
    if not are_payments(clearing, payments):
        raise InvalidPayments(payments)


def paid_by(clearing, payments):
    """The dict from all houses to what each has paid by NUMBERS, one for each line."""
    sums = {house: Ratio(0) for house in clearing.houses()}
    for line, number in zip(clearing.lines(), payments):
        sums[line[0]] = sums[line[0]] + number
        sums[line[1]] = sums[line[1]] - number
    return sums


def volume_of(clearing, payments):
    """The sum of what is paid above 0 by NUMBERS, one for each line."""
    return Ratio.total([number for number in list(paid_by(clearing, payments).values()) if number.sign > 0])


def cost_of(clearing, payments):
    """What NUMBERS, one for each line, cost."""
    return sum_of_products([line[3] for line in clearing.lines()], ratios_of(payments))


def does_fit(clearing, value):
    """Whether any value is a list of fitting payments."""
    return are_payments(clearing, value)


def paid(clearing, payments):
    """The dict from all houses to what each has paid, below 0 if it was paid more."""
    check_payments(clearing, payments)
    return paid_by(clearing, payments)


def rest(clearing, payments):
    """The dict from all houses to what each owes, less what it has paid."""
    check_payments(clearing, payments)
    sums = paid_by(clearing, payments)
    return {house: owed - sums[house] for house, owed in clearing.owed().items()}


def volume(clearing, payments):
    """The sum of what was paid above 0."""
    check_payments(clearing, payments)
    return volume_of(clearing, payments)


def cost(clearing, payments):
    """The sum of each line's payment times its cost."""
    check_payments(clearing, payments)
    return cost_of(clearing, payments)
