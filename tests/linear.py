"""The sums of [12] to [16] over Fractions, apart from the program's own judges; and systems to try."""

from fractions import Fraction
from itertools import product

from lateledger.ratios import Ratio
from lateledger.systems import System
from tests.support import dot, fraction, fractions, sign_of, total


def solves(system, values):
    told = fractions(values)
    if len(told) != len(system):
        return False
    for number, (low, high) in zip(told, system.unknowns()):
        if low is not None and number < fraction(low) or high is not None and number > fraction(high):
            return False
    for weights, word, bound in system.rows():
        left = dot(weights, values)
        if left > fraction(bound) or word == "equals" and left != fraction(bound):
            return False
    return True


def bars(system, paper):
    multipliers, lows, highs = (fractions(part) for part in paper)
    rows, unknowns = system.rows(), system.unknowns()
    if (len(multipliers), len(lows), len(highs)) != (len(rows), len(unknowns), len(unknowns)):
        return False
    told = Fraction(0)
    for number, (_, word, bound) in zip(multipliers, rows):
        if word == "at most" and number < 0:
            return False
        told += number * fraction(bound)
    for place, (low, high) in enumerate(unknowns):
        if lows[place] < 0 or highs[place] < 0:
            return False
        if low is None and lows[place] != 0 or high is None and highs[place] != 0:
            return False
        weights = total(number * fraction(row[0][place]) for number, row in zip(multipliers, rows))
        if weights + highs[place] - lows[place] != 0:
            return False
        told += highs[place] * fraction(high or 0) - lows[place] * fraction(low or 0)
    return told < 0


def worth_by_sums(aims, values):
    return tuple(dot(aim, values) for aim in aims)


def supports(system, aims, values, support):
    if not solves(system, values) or len(support) != len(system.rows()):
        return False
    for part, (weights, word, bound) in zip(support, system.rows()):
        if len(part) != len(aims):
            return False
        if word == "at most" and (sign_of(part) < 0 or sign_of(part) > 0 and dot(weights, values) != fraction(bound)):
            return False
    for place, (low, high) in enumerate(system.unknowns()):
        gain = [fraction(aim[place]) - dot([part[at] for part in support], [row[0][place] for row in system.rows()])
                for at, aim in enumerate(aims)]
        sign, number = sign_of([Ratio(part.numerator, part.denominator) for part in gain]), fraction(values[place])
        if sign > 0 and (high is None or number != fraction(high)):
            return False
        if sign < 0 and (low is None or number != fraction(low)):
            return False
    return True


def leads(system, aims, values, direction):
    if not solves(system, values) or len(direction) != len(system):
        return False
    for number, (low, high) in zip(fractions(direction), system.unknowns()):
        if high is not None and number > 0 or low is not None and number < 0:
            return False
    for weights, word, _ in system.rows():
        left = dot(weights, direction)
        if left > 0 or word == "equals" and left != 0:
            return False
    return sign_of([Ratio(part.numerator, part.denominator) for part in worth_by_sums(aims, direction)]) > 0


def some_ends(source, size):
    low, high = sorted((number(source, size), number(source, size)), key=fraction)
    return source.choice([(low, high), (low, None), (None, high), (None, None), (low, low), (0, None), (0, high)
                          if fraction(high) >= 0 else (high, 0)])


def number(source, size):
    """A small number most of the time 0 or an INTEGER, sometimes a Ratio."""
    if source.random() < 0.2:
        return 0
    if source.random() < 0.15:
        return Ratio(source.randint(-size, size), source.randint(1, 4))
    return source.randint(-size, size)


def some_system(source, most_unknowns=5, most_rows=6, size=4):
    """A random system, some of whose rows are sums of others."""
    many = source.randint(1, most_unknowns)
    rows = []
    for _ in range(source.randint(0, most_rows)):
        word = source.choice(["equals", "at most", "at most"])
        if len(rows) > 1 and source.random() < 0.25:
            one, other = source.choice(rows), source.choice(rows)
            bound = one[2] + other[2] + source.choice([0, 0, 1, -1])
            rows.append(([left + right for left, right in zip(one[0], other[0])], word, bound))
        else:
            rows.append(([number(source, size) for _ in range(many)], word, number(source, size)))
    return System([some_ends(source, size) for _ in range(many)], rows)


def some_aims(source, many, size=3):
    """One to four random aims, some of 0, some equal."""
    aims = [[number(source, size) for _ in range(many)] for _ in range(source.randint(1, 4))]
    if source.random() < 0.2:
        aims[0] = [0] * many
    if len(aims) > 1 and source.random() < 0.2:
        aims[1] = list(aims[0])
    return aims


def grid_values(system, size):
    """All values of INTEGERS of at most this size that solve a system."""
    for values in product(range(-size, size + 1), repeat=len(system)):
        if solves(system, values):
            yield list(values)
