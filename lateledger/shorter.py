"""Short numbers: where those of the corner that was found are long, short ones are looked for elsewhere."""

from lateledger.cones import Cone, Line, units
from lateledger.ratios import Ratio, are_short, ratios_of, shared_factor, sum_of_products, whole_multiples
from lateledger.solving import Solver, least_whole
from lateledger.spaces import Elimination
from lateledger.systems import AT_MOST, EQUALS, do_solve, lies_within


def shorter(unknowns, rows, values, strict=()):
    """The values that solve the rows, or short ones if these are long and such are found.

    The rows at the positions that are called strict are to stay below their bounds.
    """
    if are_short(values):
        return values
    told = list(values)
    fixed = _fixed(unknowns, rows)
    for places in _parted(len(unknowns), rows, fixed):
        if not are_short([told[place] for place in places]):
            part = Part(unknowns, rows, values, places, strict)
            found = part.found()
            if found is None:
                found = part.found_by_fixing()
            if found is not None:
                for place, number in zip(places, found):
                    told[place] = number
    return told


def _unit(many, place, number):
    return [Ratio(number) if at == place else Ratio(0) for at in range(many)]


def _fixed(unknowns, rows):
    """The dict of the unknowns that have one value alone, by equal ends and "equals" rows."""
    many = len(unknowns)
    equal = [_unit(many, place, 1) for place, (low, high) in enumerate(unknowns) if low is not None and low == high]
    equal = equal + [weights for weights, word, _ in rows if word == EQUALS]
    elimination = Elimination([whole_multiples(weights)[0] for weights in equal], many)
    return {place: True for place in elimination.determined()}


def _parted(many, rows, fixed):
    """The lists of those unknowns that hang together by rows; the fixed ones are in none."""
    parts = [[place] for place in range(many) if place not in fixed]
    for weights, _, _ in rows:
        apart, joined = [], []
        for part in parts:
            if all([weights[place].sign == 0 for place in part]):
                apart.append(part)
            else:
                joined = joined + part
        if len(joined) > 0:
            parts = apart + [sorted(joined)]
    return parts


def _plain_values(ends):
    """The values of an unknown with these ends that are plain: 0, if it may have it, and the ends."""
    low, high = ends
    told = [number for number in (low, high) if number is not None]
    return [Ratio(0)] + told if lies_within(0, low, high) else told


def _factors_of(rows, many):
    """For each of so many unknowns what its weights in the rows share."""
    return [shared_factor([row[at] for row in rows]) for at in range(many)]


def _divided(numbers, factors):
    return [number.over(factor) for number, factor in zip(numbers, factors)]


class Part:
    """Some unknowns of a system, as integers over one bottom, which stands behind them.

    They are counted by what their weights share: it is among these numbers that short ones are looked for.
    """

    def __init__(self, unknowns, rows, values, places, strict):
        self._rows, self._strict = [], []
        for at, (weights, word, bound) in enumerate(rows):
            own = [weights[place] for place in places]
            if any([weight.sign != 0 for weight in own]):
                others = sum_of_products(weights, values) - sum_of_products(own, [values[place] for place in places])
                self._rows.append((own, word, bound - others))
                self._strict.append(at in strict)
        self._factors = _factors_of([row[0] for row in self._rows], len(places))
        self._rows = [(_divided(own, self._factors), word, bound) for own, word, bound in self._rows]
        ends = [unknowns[place] for place in places]
        self._ends = [(None if low is None else low * factor, None if high is None else high * factor)
                      for (low, high), factor in zip(ends, self._factors)]

    def found(self):
        """Short values of the unknowns, None if none are found."""
        many = len(self._ends)
        equations = [self._weights(row) for row in self._rows if row[1] == EQUALS]
        lines = [Line([0 for _ in range(many)] + [1], [], True)]
        for place, (low, high) in enumerate(self._ends):
            if low is not None:
                lines.append(Line(self._weights((_unit(many, place, 1), AT_MOST, low)), [], False))
            if high is not None:
                lines.append(Line(self._weights((_unit(many, place, -1), AT_MOST, -high)), [], False))
        for row, is_strict in zip(self._rows, self._strict):
            if row[1] == AT_MOST:
                lines.append(Line([-weight for weight in self._weights(row)], [], is_strict))
        return Cone(lines, 0, self).found(units(many + 1), equations)

    def _weights(self, row):
        """The integers by which values over a bottom come to the sum less the bound."""
        return whole_multiples(row[0] + [-row[2]])[0]

    def told(self, vector):
        """The values that a vector stands for, None if they are long or do not solve the rows."""
        if vector[-1] <= 0:
            return None
        return self._judged([Ratio(part, vector[-1]) for part in vector[:-1]])

    def _judged(self, numbers):
        """The values of the unknowns that are counted so, None if they are long or do not solve the rows."""
        values = _divided(numbers, self._factors)
        return values if are_short(values) and self._is_solved_by(numbers) else None

    def _is_solved_by(self, values):
        if not do_solve(self._ends, self._rows, values):
            return False
        for (weights, _, bound), is_strict in zip(self._rows, self._strict):
            if is_strict and not sum_of_products(weights, values).is_below(bound):
                return False
        return True

    def found_by_fixing(self):
        """Short values found by keeping one unknown after the other at 0 or at an end, None if none are found.

        Those in most rows go first: without them the rows may hang together no more.
        """
        counts = [len([row for row in self._rows if row[0][place].sign != 0]) for place in range(len(self._ends))]
        ends = list(self._ends)
        for _, place in sorted([(-count, place) for place, count in enumerate(counts)]):
            for number in _plain_values(ends[place]):
                tried = ends[:place] + [(number, number)] + ends[place + 1:]
                solver = Solver(tried, self._rows)
                if solver.bar() is None:
                    ends = tried
                    values = self._judged(solver.found())
                    if values is not None:
                        return values
                    break
        return None


def shorter_direction(unknowns, rows, aims, direction):
    """The direction of a way, or a short one if this is long and such is found."""
    if are_short(direction):
        return direction
    gaining = [many for many, aim in enumerate(aims) if sum_of_products(aim, direction).sign > 0][:1]
    for many in gaining + [many for many in range(len(aims)) if many not in gaining]:
        ways = Direction(unknowns, rows, aims[:many], aims[many])
        found = ways.like(direction)
        if found is None:
            found = ways.found()
        if found is not None:
            return found
    return direction


class Direction:
    """The directions of ways that gain by one aim, and neither gain nor lose by those ahead of it."""

    def __init__(self, unknowns, rows, ahead, aim):
        self._many = len(unknowns)
        self._places = [place for place, (low, high) in enumerate(unknowns) if low is None or high is None]
        self._ends = [unknowns[place] for place in self._places]
        told = [(weights, word) for weights, word, _ in rows] + [(ratios_of(other), EQUALS) for other in ahead]
        told.append((ratios_of(aim), AT_MOST))
        told = [([weights[place] for place in self._places], word) for weights, word in told]
        self._factors = _factors_of([weights for weights, _ in told], len(self._places))
        told = [(whole_multiples(_divided(weights, self._factors))[0], word) for weights, word in told]
        self._rows, self._aim = told[:-1], told[-1][0]

    def like(self, direction):
        """The direction, but for what its numbers share; None if it is long, or gains by another aim."""
        numbers = [direction[place] * factor for place, factor in zip(self._places, self._factors)]
        return self.told(least_whole(whole_multiples(numbers)[0]))

    def found(self):
        """A short direction, None if none is found."""
        if len(self._places) == 0:
            return None
        many = len(self._places)
        lines = [Line(self._aim, [], True)]
        for place, (low, high) in enumerate(self._ends):
            if low is not None:
                lines.append(Line([1 if at == place else 0 for at in range(many)], [], False))
            if high is not None:
                lines.append(Line([-1 if at == place else 0 for at in range(many)], [], False))
        equations = [weights for weights, word in self._rows if word == EQUALS]
        for weights, word in self._rows:
            if word == AT_MOST:
                lines.append(Line([-part for part in weights], [], False))
        return Cone(lines, 0, self).found(units(many), equations)

    def told(self, vector):
        """The direction that a vector stands for, None if it is long or none."""
        numbers = ratios_of(vector)
        ends = [(None if low is None else Ratio(0), None if high is None else Ratio(0)) for low, high in self._ends]
        rows = [(ratios_of(weights), word, Ratio(0)) for weights, word in self._rows]
        values = _divided(numbers, self._factors)
        if not are_short(values) or not do_solve(ends, rows, numbers):
            return None
        if sum_of_products(self._aim, numbers).sign <= 0:
            return None
        told = {place: number for place, number in zip(self._places, values)}
        return [told.get(place, Ratio(0)) for place in range(self._many)]


def face_of(unknowns, rows, aims, support):
    """The unknowns and rows of a system that is solved by just the best values, for which there is this support."""
    ends = []
    for place, (low, high) in enumerate(unknowns):
        sign = first_sign_of(gain_of(rows, aims, support, place))
        ends.append((high, high) if sign > 0 else (low, low) if sign < 0 else (low, high))
    told = [(weights, EQUALS if first_sign_of(parts) > 0 else word, bound)
            for (weights, word, bound), parts in zip(rows, support)]
    return ends, told


def gain_of(rows, aims, support, place):
    """The tuple of the gain of an unknown by a support."""
    weights = [row[0][place] for row in rows]
    return tuple([sum_of_products([parts[at] for parts in support], [-weight for weight in weights]) + aim[place]
                  for at, aim in enumerate(aims)])


def first_sign_of(numbers):
    """The sign of the first of some NUMBERS that is not 0: 1 if they are above nought, -1 if below; else 0."""
    for number in ratios_of(numbers):
        if number.sign != 0:
            return number.sign
    return 0


def shorter_best(unknowns, rows, aims, solver):
    """A tuple of the best values at which a Solver stands, and a support of them, or short ones of both."""
    values, support = solver.found(), solver.support()
    ends, told = face_of(unknowns, rows, aims, support)
    return (shorter(ends, told, values), shorter_support(unknowns, rows, aims, values, support))


def shorter_support(unknowns, rows, aims, values, support):
    """The support of the values, or a short one if this is long and such is found, aim by aim.

    Whatever parts for the aims ahead are taken, there are parts for the next one, as values that are best have duals.
    """
    told = [list(parts) for parts in support]
    is_changed = False
    for at in range(len(aims)):
        numbers = [parts[at] for parts in told]
        if is_changed or not are_short(numbers):
            ends, lines = _system_of_supports(unknowns, rows, aims, values, [parts[:at] for parts in told])
            if is_changed:
                solver = Solver(ends, lines)
                solver.bar()
                numbers = solver.found()
            for parts, number in zip(told, shorter(ends, lines, numbers)):
                parts[at] = number
            is_changed = True
    return [tuple(parts) for parts in told]


def _system_of_supports(unknowns, rows, aims, values, known):
    """The ends and rows of a system solved by just the parts for the next aim that may stand behind the known parts."""
    at = len(known[0]) if len(known) > 0 else 0
    ends, lines = [], []
    for (weights, word, bound), parts in zip(rows, known):
        if word == EQUALS or first_sign_of(parts) > 0:
            ends.append((None, None))
        else:
            is_loose = sum_of_products(weights, values).is_below(bound)
            ends.append((Ratio(0), Ratio(0) if is_loose else None))
    for place, (low, high) in enumerate(unknowns):
        is_high, is_low = values[place] == high, values[place] == low
        if (is_high and is_low) or first_sign_of(gain_of(rows, aims[:at], known, place)) != 0:
            continue
        weights, number = [row[0][place] for row in rows], Ratio.total([aims[at][place]])
        if is_low:
            lines.append(([-weight for weight in weights], AT_MOST, -number))
        else:
            lines.append((weights, AT_MOST if is_high else EQUALS, number))
    return ends, lines
