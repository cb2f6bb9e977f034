"""What solves a system, what is best for aims in sequence, and the papers for both."""

from lateledger.barring import shorter_bar
from lateledger.errors import InvalidAims, InvalidSystem, NoEnd, NoSolution
from lateledger.ratios import are_numbers, ratio_of, ratios_of, sum_of_products
from lateledger.shorter import first_sign_of, gain_of, shorter, shorter_best, shorter_direction
from lateledger.solving import Solver, worth_of
from lateledger.systems import AT_MOST, System
from lateledger.words import is_list, is_pair, is_triple

MOST_AIMS = 4


def _check_system(system):
    if not isinstance(system, System):
        raise InvalidSystem(system)


def are_aims(system, value):
    """Whether any value is aims of what is a System."""
    if not is_list(value) or not 1 <= len(value) <= MOST_AIMS:
        return False
    return all([are_numbers(aim, len(system)) for aim in value])


def _check_aims(system, aims, fewest):
    if not is_list(aims) or not fewest <= len(aims) <= MOST_AIMS:
        raise InvalidAims(None)
    for position, aim in enumerate(aims):
        if not are_numbers(aim, len(system)):
            raise InvalidAims(position)


def _solver(system, aims):
    return Solver(system.unknowns(), system.rows(), [ratios_of(aim) for aim in aims])


def _solved(system, aims):
    solver = _solver(system, aims)
    if solver.bar() is not None:
        raise NoSolution()
    return solver


def solution(system):
    """Values that solve the system, or None."""
    _check_system(system)
    solver = _solver(system, [])
    if solver.bar() is not None:
        return None
    return shorter(system.unknowns(), system.rows(), solver.found())


def bar(system):
    """A bar of the system, or None."""
    _check_system(system)
    paper = _solver(system, []).bar()
    if paper is None:
        return None
    return shorter_bar(system.unknowns(), system.rows(), paper)


def is_bar(system, value):
    """Whether any value is a bar of the system."""
    _check_system(system)
    if not is_triple(value):
        return False
    multipliers, lows, highs = value
    rows, unknowns = system.rows(), system.unknowns()
    if not are_numbers(multipliers, len(rows)):
        return False
    if not are_numbers(lows, len(unknowns)) or not are_numbers(highs, len(unknowns)):
        return False
    if not _are_signs_right(rows, unknowns, value):
        return False
    return _do_weights_vanish(rows, value) and _bar_sum(rows, unknowns, value).sign < 0


def _are_signs_right(rows, unknowns, paper):
    multipliers, lows, highs = paper
    for row, number in zip(rows, multipliers):
        if row[1] == AT_MOST and ratio_of(number).sign < 0:
            return False
    for (low, high), at_low, at_high in zip(unknowns, lows, highs):
        if not _may_stand(low, at_low) or not _may_stand(high, at_high):
            return False
    return True


def _may_stand(end, number):
    sign = ratio_of(number).sign
    return sign == 0 or (sign > 0 and end is not None)


def _do_weights_vanish(rows, paper):
    multipliers, lows, highs = paper
    for place, (low, high) in enumerate(zip(lows, highs)):
        weights = [row[0][place] for row in rows]
        if (sum_of_products(multipliers, weights) + high - low).sign != 0:
            return False
    return True


def _bar_sum(rows, unknowns, paper):
    multipliers, lows, highs = paper
    told = sum_of_products(multipliers, [row[2] for row in rows])
    for (low, high), at_low, at_high in zip(unknowns, lows, highs):
        if high is not None:
            told = told + high * at_high
        if low is not None:
            told = told - low * at_low
    return told


def outcome(system, aims):
    """Which there is: "best" values, a "way", or a "bar"."""
    _check_system(system)
    _check_aims(system, aims, 1)
    solver = _solver(system, aims)
    if solver.bar() is not None:
        return "bar"
    if solver.way() is not None:
        return "way"
    return "best"


def worth(system, aims):
    """The tuple of the greatest worth."""
    return worth_of(aims, _best_solver(system, aims).found())


def _best_solver(system, aims):
    _check_system(system)
    _check_aims(system, aims, 1)
    solver = _solved(system, aims)
    if solver.way() is not None:
        raise NoEnd()
    return solver


def best(system, aims):
    """A tuple of best values and a support of them."""
    solver = _best_solver(system, aims)
    return shorter_best(system.unknowns(), system.rows(), aims, solver)


def is_best(system, aims, value):
    """Whether any value is a tuple of best values and a support of them."""
    _check_system(system)
    _check_aims(system, aims, 1)
    if not is_pair(value):
        return False
    values, support = value
    return system.does_solve(values) and _is_support(system, aims, ratios_of(values), support)


def _is_support(system, aims, values, support):
    rows = system.rows()
    if not is_list(support) or len(support) != len(rows):
        return False
    if not all([isinstance(part, tuple) and are_numbers(part, len(aims)) for part in support]):
        return False
    if not _are_rows_supported(rows, system.sums(values), support):
        return False
    for place, (low, high) in enumerate(system.unknowns()):
        gain = gain_of(rows, aims, support, place)
        if not _stands_right(first_sign_of(gain), values[place], low, high):
            return False
    return True


def _are_rows_supported(rows, sums, support):
    for (_, word, bound), told, part in zip(rows, sums, support):
        sign = first_sign_of(part)
        if word == AT_MOST and (sign < 0 or (sign > 0 and told != bound)):
            return False
    return True


def _stands_right(sign, number, low, high):
    if sign > 0:
        return number == high
    if sign < 0:
        return number == low
    return True


def way(system, aims):
    """A way of the system for the aims, or None."""
    _check_system(system)
    _check_aims(system, aims, 1)
    solver = _solver(system, aims)
    if solver.bar() is not None:
        return None
    direction = solver.way()
    if direction is None:
        return None
    unknowns, rows = system.unknowns(), system.rows()
    return (shorter(unknowns, rows, solver.found()), shorter_direction(unknowns, rows, aims, direction))


def is_way(system, aims, value):
    """Whether any value is a way of the system for the aims."""
    _check_system(system)
    _check_aims(system, aims, 1)
    if not is_pair(value):
        return False
    values, direction = value
    if not system.does_solve(values) or not are_numbers(direction, len(system)):
        return False
    if not _keeps_ends(system, ratios_of(direction)) or not _keeps_rows(system, direction):
        return False
    return first_sign_of(worth_of(aims, direction)) > 0


def _keeps_ends(system, direction):
    for (low, high), part in zip(system.unknowns(), direction):
        if (high is not None and part.sign > 0) or (low is not None and part.sign < 0):
            return False
    return True


def _keeps_rows(system, direction):
    for row, told in zip(system.rows(), system.sums(direction)):
        if told.sign > 0 or (row[1] != AT_MOST and told.sign < 0):
            return False
    return True


def first(system, aims=()):
    """The list of the first values."""
    _check_system(system)
    _check_aims(system, aims, 0)
    solver = _solved(system, aims)
    if solver.way_first() is not None:
        raise NoEnd()
    return solver.found()


def spans(system):
    """The list of the tuples of the least and the greatest value of each unknown, None for a missing end."""
    _check_system(system)
    solver = _solved(system, [])
    return [(_reached(solver, place, -1), _reached(solver, place, 1)) for place in range(len(system))]


def _reached(solver, place, sign):
    if solver.way_of(place, sign) is not None:
        return None
    return solver.found()[place]
