"""Whether numbers for kept reports stand by some journal, or by one of INTEGERS; with a journal or a bar."""

from lateledger.accounts import check_chart
from lateledger.errors import InvalidNumbers
from lateledger.journals import Journal, lines_of
from lateledger.lattices import WholeEquations
from lateledger.ratios import is_number, sum_of_products
from lateledger.reports import are_numbers_for, bar_or_amounts
from lateledger.weighing import Weighing, are_known, check_many, check_reports
from lateledger.words import is_integer


def _check_numbers(chart, kept, numbers):
    check_chart(chart)
    check_reports(chart, kept)
    if not are_numbers_for(kept, numbers):
        raise InvalidNumbers(numbers)
    check_many(kept)


def _check_whole_numbers(chart, kept, numbers):
    check_chart(chart)
    check_reports(chart, kept)
    if not are_numbers_for(kept, numbers) or not all([is_integer(number) for number in list(numbers.values())]):
        raise InvalidNumbers(numbers)
    check_many(kept)


def _journal_of(chart, amounts):
    lines = lines_of(amounts)
    if len(lines) == 0:
        return Journal(chart)
    return Journal(chart, [lines])


def do_stand(chart, kept, numbers):
    """Whether some journal has the numbers as the kept reports' values."""
    _check_numbers(chart, kept, numbers)
    return bar_or_amounts(chart, kept, numbers)[0] is None


def journal_with(chart, kept, numbers):
    """A Journal of at most one entry that has the numbers, or None."""
    _check_numbers(chart, kept, numbers)
    amounts = bar_or_amounts(chart, kept, numbers)[1]
    if amounts is None:
        return None
    return _journal_of(chart, amounts)


def bar(chart, kept, numbers):
    """A bar of the numbers, or None."""
    _check_numbers(chart, kept, numbers)
    return bar_or_amounts(chart, kept, numbers)[0]


def is_bar(chart, kept, numbers, value):
    """Whether any value is a bar of the numbers."""
    _check_numbers(chart, kept, numbers)
    if not _is_paper(kept, value):
        return False
    if not all([told.sign == 0 for told in _taken_together(chart, kept, value)]):
        return False
    return _sum_of_numbers(numbers, value).sign != 0


def _is_paper(kept, paper):
    return are_known(kept, paper) and all([is_number(number) for number in list(paper.values())])


def _taken_together(chart, kept, paper):
    """The own weights of the kept reports times the paper's numbers, set against those of the first account."""
    names = sorted(paper)
    numbers = [paper[name] for name in names]
    weighing = Weighing(chart, [kept[name] for name in names])
    return [sum_of_products(numbers, column) for column in weighing.columns()]


def _sum_of_numbers(numbers, paper):
    names = sorted(paper)
    return sum_of_products([numbers[name] for name in names], [paper[name] for name in names])


def do_stand_whole(chart, kept, numbers):
    """Whether some journal of INTEGERS has the numbers as the kept reports' values."""
    _check_whole_numbers(chart, kept, numbers)
    return _whole_bar_or_amounts(chart, kept, numbers)[0] is None


def whole_journal(chart, kept, numbers):
    """A Journal of at most one entry of INTEGERS that has the numbers, or None."""
    _check_whole_numbers(chart, kept, numbers)
    amounts = _whole_bar_or_amounts(chart, kept, numbers)[1]
    if amounts is None:
        return None
    return _journal_of(chart, amounts)


def whole_bar(chart, kept, numbers):
    """A whole bar of the numbers, or None."""
    _check_whole_numbers(chart, kept, numbers)
    return _whole_bar_or_amounts(chart, kept, numbers)[0]


def _whole_bar_or_amounts(chart, kept, numbers):
    """A whole bar and None, or None and the amounts of an entry of INTEGERS."""
    found = bar_or_amounts(chart, kept, numbers)[0]
    if found is not None:
        return _whole_from_bar(found, numbers), None
    names = sorted(kept)
    weighing = Weighing(chart, [kept[name] for name in names])
    equations = WholeEquations(weighing.rows(), weighing.width())
    solution, told = equations.solved([numbers[name] for name in names])
    if solution is None:
        return {name: number for name, number in zip(names, told)}, None
    return None, weighing.amounts(solution)


def _whole_from_bar(paper, numbers):
    # A bar comes to 0 for all journals, so it may be divided by whatever leaves the numbers not whole.
    told = _sum_of_numbers(numbers, paper).top
    divisor = 2
    while told // divisor * divisor == told:
        divisor = divisor + 1
    return {name: number.over(divisor) for name, number in paper.items()}


def is_whole_bar(chart, kept, numbers, value):
    """Whether any value is a whole bar of the numbers."""
    _check_whole_numbers(chart, kept, numbers)
    if not _is_paper(kept, value):
        return False
    if not all([told.is_whole for told in _taken_together(chart, kept, value)]):
        return False
    return not _sum_of_numbers(numbers, value).is_whole
