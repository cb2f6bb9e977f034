"""Systems with aims, of whatever size, put into a tableau of integers; what it finds is told in Ratios."""

from math import gcd

from lateledger.ratios import Ratio, ratios_of, shared_bottom, sum_of_products, whole_multiples
from lateledger.systems import EQUALS
from lateledger.tableaus import Tableau


def least_whole(numbers):
    """The integers without the divisor that they share."""
    divisor = 0
    for number in numbers:
        divisor = gcd(divisor, number)
    if divisor == 0:
        return list(numbers)
    return [part // divisor for part in numbers]


def raised(end, scale):
    """An end of integers, times a scale."""
    if end is None:
        return None
    return end.top * (scale // end.bottom)


class Solver:
    """Unknowns with ends, rows and aims, as `System` tells the first two: it looks for values."""

    def __init__(self, unknowns, rows, aims=()):
        """Take the tuples (low, high), the rows, and the lists of the aims' numbers, all in Ratios."""
        self._many = len(unknowns)
        scaled_rows = [whole_multiples(row[0]) for row in rows]
        scaled_aims = [whole_multiples(aim) for aim in aims]
        self._row_scales = [scale for _, scale in scaled_rows]
        self._aim_scales = [scale for _, scale in scaled_aims]
        first = len(unknowns) + len(rows)
        self._aims = list(range(first, first + len(aims)))
        ends = list(unknowns)
        for row, scale in zip(rows, self._row_scales):
            bound = row[2] * scale
            ends.append((bound if row[1] == EQUALS else None, bound))
        told = [end for pair in ends for end in pair if end is not None]
        # All ends are raised to integers by one scale, so that values are compared as integers.
        self._scale = shared_bottom(told)
        whole_ends = [(raised(low, self._scale), raised(high, self._scale)) for low, high in ends]
        lines = [line for line, _ in scaled_rows] + [line for line, _ in scaled_aims]
        self._tableau = Tableau(lines, whole_ends + [(None, None) for _ in aims])

    def bar(self):
        """Look for values that solve the system: None if they are found, otherwise a bar of it."""
        numbers = self._tableau.settle()
        if numbers is None:
            return None
        ends, sums = numbers[:self._many], numbers[self._many:]
        multipliers = [number * scale for number, scale in zip(sums, self._row_scales)]
        least = least_whole(multipliers + ends)
        ends = least[len(multipliers):]
        lows = [max(-number, 0) for number in ends]
        highs = [max(number, 0) for number in ends]
        return (ratios_of(least[:len(multipliers)]), ratios_of(lows), ratios_of(highs))

    def way(self):
        """Make all aims great, in sequence: None when they are as great as can be.

        Otherwise the direction in which they grow without end. Only once values are found.
        """
        return self._way_for([(variable, 1) for variable in self._aims])

    def way_first(self):
        """Likewise for all aims, and behind them each unknown in sequence."""
        return self.way_behind([(place, 1) for place in range(self._many)])

    def way_behind(self, wanted):
        """Likewise for all aims, and behind them unknowns, tuples (place, sign): great for 1, small for -1."""
        return self._way_for([(variable, 1) for variable in self._aims] + wanted)

    def _way_for(self, aims):
        numbers = self._tableau.climb(aims)
        if numbers is None:
            return None
        return ratios_of(least_whole(numbers[:self._many]))

    def way_of(self, place, sign):
        """Likewise for one unknown alone, to be great for the sign 1, small for -1."""
        return self._way_for([(place, sign)])

    def found(self):
        """The list of the values where the tableau stands."""
        bottom = self._tableau.common_bottom() * self._scale
        return [Ratio(top, bottom) for top in self._tableau.tops()[:self._many]]

    def support(self):
        """The support of the values, once all aims are as great as can be."""
        bottom = self._tableau.common_bottom()
        gains = [self._tableau.numbers_of(variable) for variable in self._aims]
        told = []
        for place, scale in enumerate(self._row_scales):
            tops = [numbers.get(self._many + place, 0) * scale for numbers in gains]
            parts = [Ratio(top, bottom * part) for top, part in zip(tops, self._aim_scales)]
            told.append(tuple(parts))
        return told


def worth_of(aims, values):
    """The tuple of the worth of values: for each aim the sum of its numbers times these."""
    return tuple([sum_of_products(aim, values) for aim in aims])
