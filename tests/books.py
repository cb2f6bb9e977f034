"""The sums of [23] to [27] over Fractions, apart from the program's own judges; and charts and reports to try."""

from fractions import Fraction

from lateledger.accounts import Chart
from lateledger.ratios import Ratio
from tests.support import fraction

ACCOUNTS = ["a", "a.b", "a.b.c", "a.bc", "ab", "ab.b", "b", "c"]
UNITS = ["coin", "oil", "tea"]


def above(account):
    """The account and all that it is below."""
    names = account.split(".")
    return [".".join(names[:many]) for many in range(1, len(names) + 1)]


def own_weight(report, account, unit):
    return sum(report.get((one, unit), 0) for one in above(account))


def value_by_sums(entries, report):
    """The value of a report for the entries of a journal."""
    return sum((fraction(amount) * own_weight(report, account, unit)
                for entry in entries for account, unit, amount in entry), Fraction(0))


def taken_together(chart, kept, numbers):
    """The own weights of the kept reports times the numbers, by units."""
    return [[sum((fraction(number) * own_weight(kept[name], account, unit) for name, number in numbers.items()), Fraction(0))
             for account in chart.accounts()] for unit in chart.units()]


def alike_throughout(rows):
    return all(number == row[0] for row in rows for number in row)


def weighs(chart, kept, report, numbers):
    """Whether these are weights for the report."""
    left = taken_together(chart, {**kept, "": report}, {**numbers, "": -1})
    return set(numbers) <= set(kept) and alike_throughout(left)


def comes_to_nought(entry):
    units = {unit for _, unit, _ in entry}
    places = [(account, unit) for account, unit, _ in entry]
    return (len(entry) > 0 and len(set(places)) == len(places) and all(amount != 0 for _, _, amount in entry)
            and all(sum(fraction(amount) for _, unit, amount in entry if unit == one) == 0 for one in units))


def differs(kept, report, entry):
    """Whether this is a difference for the report."""
    return (comes_to_nought(entry) and all(amount.__class__ is int for _, _, amount in entry)
            and all(value_by_sums([entry], other) == 0 for other in kept.values())
            and value_by_sums([entry], report) != 0)


def sum_by(numbers, paper):
    return sum((fraction(numbers[name]) * fraction(number) for name, number in paper.items()), Fraction(0))


def bars_numbers(chart, kept, numbers, paper):
    """Whether this is a bar of the numbers."""
    return alike_throughout(taken_together(chart, kept, paper)) and sum_by(numbers, paper) != 0


def bars_whole(chart, kept, numbers, paper):
    """Whether this is a whole bar of the numbers."""
    rows = taken_together(chart, kept, paper)
    return (all((number - row[0]).denominator == 1 for row in rows for number in row)
            and sum_by(numbers, paper).denominator != 1)


def some_chart(source):
    accounts = [account for account in ACCOUNTS if source.random() < 0.6]
    accounts = sorted({one for account in accounts for one in above(account)}) or ["b"]
    return Chart(source.sample(accounts, len(accounts)), source.sample(UNITS, source.randint(1, 2)))


def some_report(source, chart, size=3):
    report = {}
    for account in chart.accounts():
        for unit in chart.units():
            if source.random() < 0.4:
                report[account, unit] = source.randint(-size, size)
    return report


def plus(one, often, other, more):
    """The report with the weights of both, so often each."""
    return {place: often * one.get(place, 0) + more * other.get(place, 0) for place in [*one, *other]}


def like_nothing(source, chart):
    """A report like the empty one: in one unit, the same number for all accounts without a head."""
    unit, number = source.choice(chart.units()), source.randint(-2, 2)
    return {(account, unit): number for account in chart.accounts() if "." not in account}


def some_reports(source, chart, most=5, size=3):
    """A dict of reports, some of which are sums of others or like the empty one."""
    told = []
    for _ in range(source.randint(0, most)):
        kind = source.random()
        if kind < 0.2 and len(told) > 1:
            told.append(plus(source.choice(told), source.randint(-2, 2), source.choice(told), 1))
        elif kind < 0.3:
            told.append(like_nothing(source, chart))
        elif kind < 0.4 and told:
            told.append(plus(source.choice(told), 2, {}, 0))
        else:
            told.append(some_report(source, chart, size))
    names = source.sample(["x", "y", "z", "u", "v", "w", "xx", "xy"], len(told))
    return dict(zip(names, told))


def small_ratio(source):
    return Ratio(source.randint(-4, 4), source.randint(1, 3))
