"""Reports: their values, what is told by kept ones, and the smallest offers by which all are told."""

from lateledger.accounts import check_chart
from lateledger.errors import DoNotStand, InvalidNumbers, InvalidPrices, NotTold, TooMany
from lateledger.journals import check_journal, is_entry
from lateledger.lattices import shorter_solution
from lateledger.ratios import Ratio, is_number, ratio_of, sum_of_products
from lateledger.solving import least_whole
from lateledger.spaces import Elimination, rank
from lateledger.weighing import Weighing, are_known, check_many, check_report, check_reports
from lateledger.weighing import set_off_weights, weights_at
from lateledger.words import is_among, is_count, is_integer, is_list, is_triple

MOST_OFFERED = 8


def value(journal, report):
    """The value of a report for a journal."""
    check_journal(journal)
    check_report(journal.chart, report)
    return _value_for(journal.balances(), report)


def _value_for(balances, report):
    return Ratio.total([balances[place] * number for place, number in report.items() if place in balances])


def own_weights(chart, report):
    """The dict from tuples (account, unit) to the own weights of a report, without those that are 0."""
    check_chart(chart)
    check_report(chart, report)
    return weights_at(chart, report)


def are_like(chart, report, other):
    """Whether two reports have the same value for each journal of the chart."""
    check_chart(chart)
    check_report(chart, report)
    check_report(chart, other)
    return set_off_weights(chart, report) == set_off_weights(chart, other)


def _check_told(chart, kept, report):
    check_chart(chart)
    check_reports(chart, kept)
    check_report(chart, report)
    check_many(kept)


def _told_or_apart(chart, kept, report):
    """Weights for the report and None, or None and a difference for it."""
    names = sorted(kept)
    weighing = Weighing(chart, [kept[name] for name in names] + [report])
    columns = weighing.columns()
    elimination = Elimination([column[:-1] for column in columns], len(names))
    bounds = [ratio_of(column[-1]) for column in columns]
    numbers = elimination.contradiction(bounds)
    if numbers is None:
        found = elimination.solution(bounds)
        return {name: found.get(at, Ratio(0)) for at, name in enumerate(names)}, None
    amounts = weighing.amounts({at: number for at, number in enumerate(least_whole(numbers)) if number != 0})
    return None, [(account, unit, amounts[(account, unit)]) for account, unit in sorted(amounts)
                  if amounts[(account, unit)] != 0]


def is_told(chart, kept, report):
    """Whether a report is told by kept ones."""
    _check_told(chart, kept, report)
    return _told_or_apart(chart, kept, report)[0] is not None


def weights(chart, kept, report):
    """Weights for the report, or None."""
    _check_told(chart, kept, report)
    return _told_or_apart(chart, kept, report)[0]


def difference(chart, kept, report):
    """A difference for the report, or None."""
    _check_told(chart, kept, report)
    return _told_or_apart(chart, kept, report)[1]


def are_weights(chart, kept, report, value):
    """Whether any value is weights for the report."""
    _check_told(chart, kept, report)
    return _do_weigh(chart, kept, report, value)


def _do_weigh(chart, kept, report, paper):
    if not are_known(kept, paper) or not all([is_number(number) for number in list(paper.values())]):
        return False
    names = sorted(paper)
    numbers = [paper[name] for name in names]
    for column in Weighing(chart, [kept[name] for name in names] + [report]).columns():
        if sum_of_products(numbers, column[:-1]) != ratio_of(column[-1]):
            return False
    return True


def is_difference(chart, kept, report, value):
    """Whether any value is a difference for the report."""
    _check_told(chart, kept, report)
    return _does_differ(chart, list(kept.values()), report, value)


def _does_differ(chart, others, report, paper):
    if not is_entry(chart, paper) or not all([is_integer(line[2]) for line in paper]):
        return False
    told = [_value_of_entry(chart, paper, other) for other in others]
    return all([number == 0 for number in told]) and _value_of_entry(chart, paper, report) != 0


def _value_of_entry(chart, entry, report):
    own = weights_at(chart, report)
    return sum([amount * own.get((account, unit), 0) for account, unit, amount in entry])


def are_numbers_for(kept, numbers):
    """Whether any value is numbers for the kept reports."""
    if not are_known(kept, numbers) or len(numbers) != len(kept):
        return False
    return all([is_number(number) for number in list(numbers.values())])


def bar_or_amounts(chart, kept, numbers):
    """The numbers of a bar of the kept reports' numbers and None, or None and the amounts of an entry with them."""
    names = sorted(kept)
    weighing = Weighing(chart, [kept[name] for name in names])
    elimination = Elimination(weighing.rows(), weighing.width())
    bounds = [ratio_of(numbers[name]) for name in names]
    found = elimination.contradiction(bounds)
    if found is None:
        solution = elimination.solution(bounds)
        return None, weighing.amounts(shorter_solution(weighing.rows(), weighing.width(), bounds, solution))
    return {name: Ratio(number) for name, number in zip(names, least_whole(found))}, None


def told_value(chart, kept, report, numbers):
    """The value of the report where the kept ones have these numbers."""
    check_chart(chart)
    check_reports(chart, kept)
    check_report(chart, report)
    if not are_numbers_for(kept, numbers):
        raise InvalidNumbers(numbers)
    found = _told_or_apart(chart, kept, report)[0]
    if found is None:
        raise NotTold()
    if bar_or_amounts(chart, kept, numbers)[0] is not None:
        raise DoNotStand()
    check_many(kept)
    names = sorted(kept)
    return sum_of_products([numbers[name] for name in names], [found[name] for name in names])


def _check_offered(chart, offered):
    check_chart(chart)
    check_reports(chart, offered)
    check_many(offered)


def is_kept_set(chart, offered, value):
    """Whether any value is a kept set of the offered reports."""
    _check_offered(chart, offered)
    return _is_sorted_of(offered, value) and _are_all_told(chart, offered, value)


def _is_sorted_of(offered, paper):
    if not is_list(paper) or not all([is_among(offered, name) for name in paper]):
        return False
    return list(paper) == sorted(set(paper))


def _are_all_told(chart, offered, names):
    names_of_rest = [name for name in sorted(offered) if name not in names]
    weighing = Weighing(chart, [offered[name] for name in [*names, *names_of_rest]])
    rows = weighing.rows()
    return rank(rows[:len(names)], weighing.width()) == rank(rows, weighing.width())


def least_sets(chart, offered):
    """The sorted list of all least kept sets."""
    _check_offered(chart, offered)
    if len(offered) > MOST_OFFERED:
        raise TooMany("reports", MOST_OFFERED)
    names = sorted(offered)
    weighing = Weighing(chart, [offered[name] for name in names])
    # The columns with pivots alone have the rank of all, whichever rows are taken.
    columns = list(Elimination(weighing.rows(), weighing.width()).pivots())
    rows = [[row[column] for column in columns] for row in weighing.rows()]
    found = []
    for choice in range(1 << len(names)):
        chosen = [at for at in range(len(names)) if (choice >> at) & 1]
        if len(chosen) == len(columns) and rank([rows[at] for at in chosen], len(columns)) == len(columns):
            found.append([names[at] for at in chosen])
    return sorted(found)


def _check_prices(chart, offered, prices):
    check_chart(chart)
    check_reports(chart, offered)
    if not are_known(offered, prices) or len(prices) != len(offered):
        raise InvalidPrices(prices)
    if not all([is_count(price) for price in list(prices.values())]):
        raise InvalidPrices(prices)
    check_many(offered)


def _in_sequence(prices):
    pairs = sorted([(price, name) for name, price in prices.items()])
    return [pair[1] for pair in pairs]


def _cheapest_names(chart, offered, prices):
    sequence = _in_sequence(prices)
    weighing = Weighing(chart, [offered[name] for name in sequence])
    chosen = list(Elimination(weighing.rows(), weighing.width()).pivots().values())
    return [sequence[at] for at in sorted(chosen)]


def cheapest_set(chart, offered, prices):
    """The sorted list of the names of the cheapest set."""
    _check_prices(chart, offered, prices)
    return sorted(_cheapest_names(chart, offered, prices))


def _beside(offered, names, name):
    return {other: offered[other] for other in names if other != name}


def _ahead(prices, names, name):
    return [other for other in names if (prices[other], other) < (prices[name], name)]


def set_paper(chart, offered, prices):
    """The paper of the cheapest set: the set, weights for all others, differences for its own names."""
    _check_prices(chart, offered, prices)
    names = sorted(_cheapest_names(chart, offered, prices))
    told = {}
    apart = {}
    for name in sorted(offered):
        if name in names:
            apart[name] = _told_or_apart(chart, _beside(offered, names, name), offered[name])[1]
        else:
            ahead = {other: offered[other] for other in _ahead(prices, names, name)}
            told[name] = _told_or_apart(chart, ahead, offered[name])[0]
    return (names, told, apart)


def is_set_paper(chart, offered, prices, value):
    """Whether any value is the paper of the cheapest set."""
    _check_prices(chart, offered, prices)
    if not is_triple(value):
        return False
    names, told, apart = value
    if not _is_sorted_of(offered, names) or not are_known(offered, told) or not are_known(offered, apart):
        return False
    if sorted(apart) != list(names) or sorted([*told, *names]) != sorted(offered):
        return False
    for name, paper in told.items():
        ahead = {other: offered[other] for other in _ahead(prices, names, name)}
        if not _do_weigh(chart, ahead, offered[name], paper):
            return False
    for name, paper in apart.items():
        if not _does_differ(chart, list(_beside(offered, names, name).values()), offered[name], paper):
            return False
    return True
