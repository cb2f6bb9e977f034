"""Reports as vectors: their own weights, set against those of one account in each unit."""

from lateledger.accounts import is_place
from lateledger.errors import InvalidReport, InvalidReports, TooMany
from lateledger.words import is_integer, is_keyed_among, is_name

MOST_REPORTS = 12


def is_report(chart, value):
    """Whether any value is a report of the chart."""
    if not isinstance(value, dict):
        return False
    return all([is_place(chart, place) and is_integer(number) for place, number in value.items()])


def check_report(chart, report):
    """InvalidReport unless the value is a report of the chart."""
    if not is_report(chart, report):
        raise InvalidReport(report)


def are_reports(chart, value):
    """Whether any value is a dict from NAMES to reports of the chart."""
    if not isinstance(value, dict):
        return False
    return all([is_name(name) and is_report(chart, report) for name, report in value.items()])


def check_reports(chart, reports):
    """InvalidReports unless the value is a dict from NAMES to reports of the chart."""
    if not are_reports(chart, reports):
        raise InvalidReports(reports)


def check_many(reports):
    """TooMany if there are more reports than are let."""
    if len(reports) > MOST_REPORTS:
        raise TooMany("reports", MOST_REPORTS)


def weights_at(chart, report):
    """The dict from tuples (account, unit) to the own weights that are not 0."""
    weights = {}
    for (account, unit), number in report.items():
        for one in [account] + chart.below(account):
            weights[(one, unit)] = number + weights.get((one, unit), 0)
    return {place: weights[place] for place in sorted(weights) if weights[place] != 0}


def set_off_weights(chart, report):
    """The own weights less those of the first account, in each unit; those that are 0 left out.

    Two reports are like exactly if these are equal: all amounts of a unit come to 0.
    """
    weights = weights_at(chart, report)
    accounts = chart.accounts()
    told = {}
    for unit in chart.units():
        base = weights.get((accounts[0], unit), 0)
        for account in accounts:
            number = weights.get((account, unit), 0) - base
            if number != 0:
                told[(account, unit)] = number
    return told


def are_known(kept, value):
    """Whether any value is a dict whose keys are names of the kept reports."""
    return is_keyed_among(kept, value)


class Weighing:
    """Reports as rows of integers, with a column for each account and unit where one of them has a weight."""

    def __init__(self, chart, reports):
        """Take a list of reports."""
        self._chart = chart
        told = [set_off_weights(chart, report) for report in reports]
        self._places = sorted({place for weights in told for place in weights})
        self._rows = [[row.get(at, 0) for at in self._places] for row in told]

    def rows(self):
        """The list of the rows."""
        return [list(row) for row in self._rows]

    def columns(self):
        """The list of the columns."""
        return [[row[at] for row in self._rows] for at in range(len(self._places))]

    def width(self):
        """How many columns there are."""
        return len(self._places)

    def amounts(self, numbers):
        """The amounts of an entry with the numbers, a dict from columns, and what the first account balances."""
        base = self._chart.accounts()[0]
        amounts = {}
        for column in sorted(numbers):
            account, unit = self._places[column]
            amounts[(account, unit)] = numbers[column]
            amounts[(base, unit)] = amounts.get((base, unit), 0) - numbers[column]
        return amounts
