"""Equations of integers that want integers: the sums of INTEGER multiples of vectors."""

from lateledger.ratios import MOST_BITS, Ratio, are_short, shared_bottom, whole_multiples
from lateledger.spaces import Elimination


def shared_divisor(one, other):
    """The greatest number that divides both, COUNTS not both 0, and how often each is taken to come to it."""
    left, left_often, right_often = one, 1, 0
    right, next_left, next_right = other, 0, 1
    while right != 0:
        often = left // right
        left, right = right, left - often * right
        left_often, next_left = next_left, left_often - often * next_left
        right_often, next_right = next_right, right_often - often * next_right
    return left, left_often, right_often


class Lattice:
    """All sums of INTEGER multiples of some vectors. It grows when one is put in.

    The vector that is the modulus at one place and 0 elsewhere is in it for each place, from the beginning; so
    numbers never grow beyond the modulus. The vector of its base at a place has 0 at all places ahead.
    TRACKS tell how often each vector that was put in under a name has been taken, but for the modulus.
    """

    def __init__(self, size, modulus):
        self._size = size
        self._modulus = modulus
        self._base = [[modulus if at == place else 0 for at in range(size)] for place in range(size)]
        self._tracks = [{} for _ in range(size)]

    def track_of(self, vector):
        """How often each vector is taken to come to this one, a dict; None if it is not in the lattice."""
        return self._reduced(vector)[1]

    def _reduced(self, vector):
        """The first place at which the vector is not met, and None; or None and its track."""
        rest = list(vector)
        track = {}
        for place in range(self._size):
            base = self._base[place]
            often = rest[place] // base[place]
            if rest[place] != often * base[place]:
                return place, None
            rest = [self._less(part - often * taken) for part, taken in zip(rest, base)]
            track = self._joined(track, 1, self._tracks[place], often)
        return None, track

    def _less(self, number):
        return int(number) % self._modulus

    def _joined(self, one, often, other, more):
        names = sorted({name for name in [*one, *other]})
        return {name: self._less(often * one.get(name, 0) + more * other.get(name, 0)) for name in names}

    def put_in(self, vector, name):
        """Let the lattice have this vector; without a name it is not told in tracks."""
        track = {} if name is None else {name: 1}
        rest = [self._less(part) for part in vector]
        for place in range(self._size):
            if rest[place] != 0:
                rest, track = self._taken_in(place, rest, track)

    def _taken_in(self, place, rest, track):
        """Change the base at a place, and tell what is left of the vector: it has 0 there."""
        base, old = self._base[place], self._tracks[place]
        divisor, often, more = shared_divisor(base[place], rest[place])
        fresh = [self._less(often * part + more * other) for part, other in zip(base, rest)]
        self._base[place] = fresh
        self._tracks[place] = self._joined(old, often, track, more)
        less, much = base[place] // divisor, rest[place] // divisor
        left = [self._less(less * other - much * part) for part, other in zip(base, rest)]
        return left, self._joined(track, less, old, -much)

    def bar(self, vector):
        """The Ratios by which each vector of the lattice comes to an integer, and this one, not in it, does not."""
        place = self._reduced(vector)[0]
        numbers = [Ratio(0) for _ in range(self._size)]
        numbers[place] = Ratio(1, self._base[place][place])
        for at in reversed(range(place)):
            base = self._base[at]
            told = Ratio.total([numbers[later] * base[later] for later in range(at + 1, place + 1)])
            numbers[at] = part_below_one(-told.over(base[at]))
        return numbers


def part_below_one(number):
    """A Ratio without its whole part."""
    return Ratio(int(number.top) % number.bottom, number.bottom)


class WholeEquations:
    """Rows of integers of which it is asked whether integers bring them to some bounds."""

    def __init__(self, rows, many):
        """Take the rows, each with so many numbers."""
        self._rows = rows
        self._many = many
        self._elimination = Elimination(rows, many)
        self._pivots = self._elimination.pivots()
        self._owners = sorted(self._pivots.values())

    def _vector(self, column):
        return [self._rows[row][column] for row in self._owners]

    def solved(self, bounds):
        """A dict from columns to the integers of a solution, and None; or None and the numbers of a bar.

        The bounds stand by Ratios; only those of rows with pivots are looked at.
        """
        wanted = [bounds[row] for row in self._owners]
        lattice = Lattice(len(wanted), self._elimination.determinant())
        for column in self._pivots:
            lattice.put_in(self._vector(column), None)
        track = lattice.track_of(wanted)
        for column in range(self._many):
            if track is None and column not in self._pivots and lattice.track_of(self._vector(column)) is None:
                lattice.put_in(self._vector(column), column)
                track = lattice.track_of(wanted)
        if track is None:
            return None, self._told_bar(lattice.bar(wanted), len(bounds))
        return self._solution(track, bounds), None

    def _told_bar(self, numbers, many):
        told = [Ratio(0) for _ in range(many)]
        for row, number in zip(self._owners, numbers):
            told[row] = number
        return told

    def _solution(self, track, bounds):
        # The pivots make up exactly for what the other columns leave, as that is a sum of theirs.
        left = list(bounds)
        for column, often in track.items():
            left = [bound - row[column] * often for bound, row in zip(left, self._rows)]
        found = self._elimination.solution([Ratio(bound) for bound in left])
        for column, often in track.items():
            found[column] = Ratio(often)
        return found


def shorter_solution(rows, many, bounds, solution):
    """The solution, a dict from columns to Ratios, or a short one if this is long and such is found.

    One of INTEGERS for all bounds times one scale has no other bottom than this scale.
    """
    if are_short(list(solution.values())):
        return solution
    equations = WholeEquations(rows, many)
    whole_bounds, scale = whole_multiples(bounds)
    while scale.bit_length() <= MOST_BITS:
        found, bar = equations.solved(whole_bounds)
        if found is not None:
            told = {column: number.over(scale) for column, number in found.items()}
            return told if are_short(list(told.values())) else solution
        # What the bar tells apart by parts of 1 is no longer told apart by so often as much.
        often = shared_bottom(bar)
        whole_bounds, scale = [bound * often for bound in whole_bounds], scale * often
    return solution
