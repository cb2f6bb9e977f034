"""Clearings to try, and all payments of few parts, one by one, over Fractions."""

from fractions import Fraction
from itertools import product

from lateledger.lines import Clearing
from lateledger.ratios import Ratio
from tests.support import fraction

HOUSES = ["a", "b", "c", "d", "e", "f", "g", "h"]


def some_clearing(source, most_houses=4, most_lines=5, size=3, bottom=1):
    """A small clearing; what is owed are parts over the bottom."""
    houses = source.sample(HOUSES, source.randint(1, most_houses))
    owed = {house: source.randint(-size, size) for house in houses}
    owed[houses[0]] -= sum(owed.values())
    pairs = [(one, other) for one in houses for other in houses if one != other]
    lines = [(one, other, source.randint(0, size), source.choice([0, 0, 1, 2, 5]))
             for one, other in source.sample(pairs, min(len(pairs), source.randint(0, most_lines)))]
    return Clearing({house: Ratio(number, bottom) for house, number in owed.items()}, lines)


def paid_by_sums(clearing, payments):
    sums = {house: Fraction(0) for house in clearing.houses()}
    for (one, other, _, _), number in zip(clearing.lines(), payments):
        sums[one] += fraction(number)
        sums[other] -= fraction(number)
    return sums


def fits(clearing, payments):
    if any(not 0 <= fraction(number) <= line[2] for line, number in zip(clearing.lines(), payments)):
        return False
    sums = paid_by_sums(clearing, payments)
    return all(min(fraction(owed), 0) <= sums[house] <= max(fraction(owed), 0) for house, owed in clearing.owed().items())


def volume_by_sums(clearing, payments):
    return sum((number for number in paid_by_sums(clearing, payments).values() if number > 0), Fraction(0))


def cost_by_sums(clearing, payments):
    return sum((fraction(number) * line[3] for line, number in zip(clearing.lines(), payments)), Fraction(0))


def all_payments(clearing, bottom=1):
    """All fitting payments of parts over the bottom; corners are among them if what is owed is of such parts."""
    grids = [[Fraction(part, bottom) for part in range(line[2] * bottom + 1)] for line in clearing.lines()]
    told = [[Ratio(part.numerator, part.denominator) for part in choice] for choice in product(*grids)]
    return [payments for payments in told if fits(clearing, payments)]


def greatest_of(clearing, bottom=1):
    found = all_payments(clearing, bottom)
    most = max(volume_by_sums(clearing, payments) for payments in found)
    return most, [payments for payments in found if volume_by_sums(clearing, payments) == most]


def cheapest_of(clearing, bottom=1):
    found = greatest_of(clearing, bottom)[1]
    least = min(cost_by_sums(clearing, payments) for payments in found)
    return least, [payments for payments in found if cost_by_sums(clearing, payments) == least]


def all_sets(clearing):
    houses = clearing.houses()
    return [[house for at, house in enumerate(houses) if choice >> at & 1] for choice in range(1 << len(houses))]


def bound_by_sums(clearing, some):
    owed = {house: fraction(number) for house, number in clearing.owed().items()}
    return (sum((number for house, number in owed.items() if house not in some and number > 0), Fraction(0))
            + sum(most for one, other, most, _ in clearing.lines() if one in some and other not in some)
            + sum((-number for house, number in owed.items() if house in some and number < 0), Fraction(0)))


def least_sets(clearing):
    bounds = [(bound_by_sums(clearing, some), some) for some in all_sets(clearing)]
    least = min(bound for bound, _ in bounds)
    return least, [some for bound, some in bounds if bound == least]


def are_potentials_by_sums(clearing, payments, told):
    places = {house: fraction(number) for house, number in told[0].items()}
    start, end = fraction(told[1]), fraction(told[2])
    for (one, other, most, cost), number in zip(clearing.lines(), payments):
        if fraction(number) < most and places[other] > places[one] + cost:
            return False
        if fraction(number) > 0 and places[other] < places[one] + cost:
            return False
    sums = paid_by_sums(clearing, payments)
    for house, number in clearing.owed().items():
        owed, place = fraction(number), places[house]
        if owed > 0 and (sums[house] > 0 and place < start or sums[house] < owed and place > start):
            return False
        if owed < 0 and (sums[house] < 0 and place > end or sums[house] > owed and place < end):
            return False
    return True
