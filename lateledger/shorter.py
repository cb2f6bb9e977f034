"""Short solutions: where the corner that was found has long numbers, values near the middle may have short ones."""

from lateledger.ratios import MOST_BITS, Ratio, are_short, ratios_of, sum_of_products, whole_multiples
from lateledger.solving import Solver
from lateledger.spaces import Elimination
from lateledger.systems import AT_MOST, EQUALS, do_solve


def shorter(unknowns, rows, values):
    """The values that solve the rows, or short ones if these are long and such are found."""
    if are_short(values):
        return values
    middle = _middle(unknowns, rows)
    if middle is None:
        return values
    hanging = Hanging(unknowns, rows)
    scale = 10
    while scale.bit_length() <= MOST_BITS:
        found = hanging.completed([rounded(number, scale) for number in middle])
        if are_short(found) and do_solve(unknowns, rows, found):
            return found
        scale = scale * scale
    return values


def rounded(number, scale):
    """The Ratio over the scale that is next to a Ratio."""
    return Ratio((2 * number.top * scale + number.bottom) // (2 * number.bottom), scale)


def _is_fixed(low, high):
    return low is not None and low == high


def _unit(many, place, number):
    return [Ratio(number) if at == place else Ratio(0) for at in range(many)]


def _middle(unknowns, rows):
    """Values around which there is room: all that are no farther off in any unknown keep ends and "at most" rows.

    The room is one unknown more, to be as great as can be, but at most 1. None if there is no room.
    """
    many = len(unknowns)
    ends, wide = [], []
    for place, (low, high) in enumerate(unknowns):
        if _is_fixed(low, high):
            ends.append((low, high))
            continue
        ends.append((None, None))
        if low is not None:
            wide.append((_unit(many, place, -1) + [Ratio(1)], AT_MOST, -low))
        if high is not None:
            wide.append((_unit(many, place, 1) + [Ratio(1)], AT_MOST, high))
    for weights, word, bound in rows:
        sizes = [weight.size() for weight in weights]
        wide.append((weights + [Ratio(0) if word == EQUALS else Ratio.total(sizes)], word, bound))
    solver = Solver(ends + [(Ratio(0), Ratio(1))], wide, [_unit(many + 1, many, 1)])
    if solver.bar() is not None or solver.way() is not None:
        return None
    found = solver.found()
    if found[many].sign == 0:
        return None
    return found[:many]


class Hanging:
    """The unknowns that hang on the others by "equals" rows and equal ends."""

    def __init__(self, unknowns, rows):
        many = len(unknowns)
        told = [(_unit(many, place, 1), low) for place, (low, high) in enumerate(unknowns) if _is_fixed(low, high)]
        told = told + [(weights, bound) for weights, word, bound in rows if word == EQUALS]
        whole = [whole_multiples(weights) for weights, _ in told]
        self._lines = [line for line, _ in whole]
        self._bounds = [bound * scale for (_, bound), (_, scale) in zip(told, whole)]
        self._elimination = Elimination(self._lines, many)
        self._pivots = self._elimination.pivots()

    def completed(self, values):
        """The values, with others for the unknowns that hang on them."""
        free = [Ratio(0) if place in self._pivots else number for place, number in enumerate(values)]
        left = [bound - sum_of_products(line, free) for line, bound in zip(self._lines, self._bounds)]
        found = self._elimination.solution(left)
        return [found.get(place, number) for place, number in enumerate(free)]


def shorter_bar(unknowns, rows, paper):
    """The bar, or a short one if this is long and such is found."""
    multipliers, lows, highs = paper
    many = len(unknowns)
    # Few rows make short sums: so only those are taken that the bar takes.
    used = [place for place, number in enumerate(multipliers) if number.sign != 0]
    ends, lines = _system_of_bars(unknowns, [rows[place] for place in used])
    found = shorter(ends, lines, highs + lows + [multipliers[place] for place in used])
    told = [Ratio(0) for _ in rows]
    for place, number in zip(used, found[2 * many:]):
        told[place] = number
    return (told, found[many:2 * many], found[:many])


def _system_of_bars(unknowns, rows):
    """The ends and rows of a system solved by just the bars with a sum of at most -1.

    Its unknowns are the numbers for highs, those for lows, then the multipliers: so these are the ones that are free.
    """
    many = len(unknowns)
    ends = [_ends_for(high) for _, high in unknowns] + [_ends_for(low) for low, _ in unknowns]
    ends = ends + [(Ratio(0) if word == AT_MOST else None, None) for _, word, _ in rows]
    lines = []
    for place in range(many):
        weights = [row[0][place] for row in rows]
        lines.append((_unit(many, place, 1) + _unit(many, place, -1) + weights, EQUALS, Ratio(0)))
    sums = [_or_nought(high) for _, high in unknowns] + [-_or_nought(low) for low, _ in unknowns]
    lines.append((sums + [row[2] for row in rows], AT_MOST, Ratio(-1)))
    return ends, lines


def _ends_for(end):
    if end is None:
        return (Ratio(0), Ratio(0))
    return (Ratio(0), None)


def _or_nought(end):
    if end is None:
        return Ratio(0)
    return end


def shorter_direction(unknowns, rows, aims, direction):
    """The direction of a way, or a short one if this is long and such is found."""
    ends = [(None if low is None else Ratio(0), None if high is None else Ratio(0)) for low, high in unknowns]
    lines = [(weights, word, Ratio(0)) for weights, word, _ in rows]
    for aim in aims:
        if sum_of_products(aim, direction).sign != 0:
            lines.append((ratios_of([-number for number in aim]), AT_MOST, Ratio(-1)))
            break
        lines.append((ratios_of(aim), EQUALS, Ratio(0)))
    return shorter(ends, lines, direction)
