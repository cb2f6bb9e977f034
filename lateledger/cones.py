"""Short vectors of integers with sums that are 0, at least 0, or above 0: a lattice within a cone.

What is looked for is a vector of few digits. So the lattice of all vectors with the sums of 0 is made short bit by
bit, and as soon as it is known to hold some short vectors, the cone is looked for among the sums of these alone.
"""

from lateledger.ratios import Ratio, ratios_of
from lateledger.reducing import Reduction, dot, most_bits, shifted
from lateledger.solving import Solver, least_whole
from lateledger.systems import AT_MOST

PRIME = 2305843009213693951
FEED = 32
# Vectors of more bits have no numbers of at most 500 digits, but for what their numbers share.
LONG_BITS = 1760
# The work is bounded, so that it ends soon where there is no short vector.
MOST_STEPS = 400000
MOST_TRIES = 60
ALIKE_BITS = 8
ROUGH_BITS = 160


class Feeder:
    """Vectors whose sums of 0 are weighed more and more, until those that keep them are made short. It changes."""

    def __init__(self, vectors, equations):
        self._vectors = [list(vector) for vector in vectors]
        self._equations = [least_whole(equation) for equation in equations]
        self._sizes = [most_bits(equation) for equation in self._equations]
        self._level = 0
        rows = [[dot(equation, vector) for vector in vectors] for equation in self._equations]
        self._many = len(vectors) - rank_by_prime(rows)
        self._steps = MOST_STEPS
        self._is_done = self._many == 0

    def is_done(self):
        """Whether no more short vectors come."""
        return self._is_done

    def exact(self):
        """The list of the vectors, shorter ones first, with all sums 0, after one more feeding."""
        if len(self._equations) == 0:
            self._is_done = True
            return self._sorted(self._vectors)
        self._level = self._level + FEED
        cut = [[shifted(part, self._level - size) for part in equation]
               for equation, size in zip(self._equations, self._sizes)]
        width = len(self._vectors[0])
        reduction = Reduction([vector + [dot(line, vector) for line in cut] for vector in self._vectors])
        self._steps = reduction.reduce(self._steps)
        self._vectors = [vector[:width] for vector in reduction.vectors()]
        exact = [self._is_exact(vector) for vector in self._vectors]
        sizes = [reduction.size(at) for at in range(len(exact)) if not exact[at]]
        found = [vector for vector, is_so in zip(self._vectors, exact) if is_so]
        if len(found) >= self._many or self._steps == 0 or min(sizes) > 2 * LONG_BITS:
            self._is_done = True
        return self._sorted(found)

    def _is_exact(self, vector):
        return all([dot(equation, vector) == 0 for equation in self._equations])

    def _sorted(self, vectors):
        places = sorted([(most_bits(vector), at) for at, vector in enumerate(vectors)])
        return [list(vectors[at]) for _, at in places]


def rank_by_prime(rows):
    """How many of the rows do not hang on others, reckoned by a prime: never too many."""
    left = [[int(part) % PRIME for part in row] for row in rows]
    rank = 0
    while len(left) > 0:
        row = left[0]
        places = [at for at, part in enumerate(row) if part != 0]
        left = left[1:]
        if len(places) > 0:
            rank = rank + 1
            place = places[0]
            left = [[int(row[place] * part - other[place] * less) % PRIME for part, less in zip(other, row)]
                    for other in left]
    return rank


class Line:
    """A sum of a vector's integers, and of some free numbers of at least 0, that is wanted to be at least 0."""

    def __init__(self, numbers, free_numbers, is_strict):
        """Take the integers for the vector and for the free numbers, and whether the sum must be above 0."""
        self.numbers = numbers
        self.free_numbers = free_numbers
        self.is_strict = is_strict


class Cone:
    """Lines, and an object that makes of a vector the result wanted. It changes only by the work that it has left."""

    def __init__(self, lines, many_free, judge):
        """Take the Lines, how many free numbers there are, and the object whose `told` makes a result of a vector.

        That is None if the vector is not as it is wanted.
        """
        self._lines = lines
        self._many_free = many_free
        self._judge = judge
        self._tries = MOST_TRIES

    def found(self, vectors, equations):
        """The result of a short vector that is a sum of these, with the equations' sums 0; None if none is found."""
        feeder = Feeder(vectors, equations)
        known = 0
        while not feeder.is_done() and self._tries > 0:
            exact = feeder.exact()
            for many in range(known + 1, len(exact) + 1):
                if self._is_end_of_alike(exact, many):
                    told = self._within(exact[:many])
                    if told is not None:
                        return told
            known = max(known, len(exact))
        return None

    def _is_end_of_alike(self, vectors, many):
        return many == len(vectors) or most_bits(vectors[many]) > most_bits(vectors[many - 1]) + ALIKE_BITS

    def _within(self, vectors):
        """The result of a vector in the middle of the cone, of those that are sums of the vectors."""
        if self._tries == 0:
            return None
        self._tries = self._tries - 1
        sums, wanted = [], []
        for line in self._lines:
            numbers = least_whole([dot(line.numbers, vector) for vector in vectors] + line.free_numbers)
            if self._has_no_way(line, numbers, len(vectors)):
                return None
            if any([part != 0 for part in numbers[:len(vectors)]]):
                sums.append(numbers)
                wanted.append(line)
        # Leading bits are enough to find the middle of a wide cone, and what is found is judged.
        rough = self._middle([cut_to(numbers, ROUGH_BITS) for numbers in sums], len(vectors))
        told = self._rounded(vectors, rough.found())
        if told is None:
            exact = self._middle(sums, len(vectors))
            if exact.found()[-1].sign == 0:
                return self._on_the_edge(vectors, wanted, exact.support())
            told = self._rounded(vectors, exact.found())
        return told

    def _middle(self, sums, many):
        """A Solver that stands in the middle of a cone, where all sums are above 0, if there is such a place."""
        rows = []
        for numbers in sums:
            room = sum([abs(part) for part in numbers[:many]])
            rows.append((ratios_of([-part for part in numbers] + [room]), AT_MOST, Ratio(0)))
        ends = [(Ratio(-1), Ratio(1)) for _ in range(many)] + [(Ratio(0), None) for _ in range(self._many_free)]
        solver = Solver(ends + [(Ratio(0), Ratio(1))], rows, [ratios_of([0 for _ in ends] + [1])])
        # Nothing but 0 for all is always there, and the room is at most 1.
        solver.bar()
        solver.way()
        return solver

    def _has_no_way(self, line, weights, many):
        if not line.is_strict:
            return False
        return all([part == 0 for part in weights[:many]]) and all([part <= 0 for part in weights[many:]])

    def _on_the_edge(self, vectors, lines, support):
        # There is no room: lines with a part in the support are 0 for all vectors in the cone.
        edge = [line for line, parts in zip(lines, support) if parts[0].sign > 0]
        if any([line.is_strict for line in edge]):
            return None
        return self.found(vectors, [line.numbers for line in edge])

    def _rounded(self, vectors, found):
        """The result of a sum of the vectors near the middle, with whole numbers of them; None without room."""
        numbers, room = found[:len(vectors)], found[-1]
        if room.sign == 0:
            return None
        enough = room.bottom // (2 * room.top) + 1
        scale = 1
        while scale.bit_length() <= LONG_BITS:
            often = [nearest(number.top * scale, number.bottom) for number in numbers]
            told = self._told(vectors, often)
            if told is not None or scale >= enough:
                return told
            scale = scale * 4 if scale < 65536 else scale * 65536
            scale = min(scale, enough)
        return None

    def _told(self, vectors, often):
        columns = [[vector[at] for vector in vectors] for at in range(len(vectors[0]))]
        vector = least_whole([dot(column, often) for column in columns])
        if all([part == 0 for part in vector]):
            return None
        return self._judge.told(vector)


def cut_to(numbers, bits):
    """The integers without what so many leading bits of the greatest one do not reach."""
    left = max(most_bits(numbers) - bits, 0)
    return [part >> left for part in numbers]


def nearest(top, bottom):
    """The integer next to a fraction."""
    return (2 * top + bottom) // (2 * bottom)


def units(many):
    """The vectors of as many integers with a 1 at one place each."""
    return [[1 if at == place else 0 for at in range(many)] for place in range(many)]
