"""Short bars: by few rows that quarrel, or by short multipliers of many rows."""

from lateledger.cones import Cone, Line, rank_by_prime, units
from lateledger.ratios import Ratio, are_short, ratios_of, shared_factor, sum_of_products, whole_multiples
from lateledger.solving import Solver, least_whole
from lateledger.systems import AT_MOST

# The search for few rows looks at so few only, and asks so often at most whether some rows have a solution; of many
# rows together it takes long to ask that, so only so many more are tried with the few.
FEW = 2
MOST_FEW = 4
MOST_ASKED = 1500
MORE_KEPT = 3


def shorter_bar(unknowns, rows, paper):
    """The bar, or a short one if this is long and such is found."""
    if all([are_short(numbers) for numbers in paper]):
        return paper
    used = [place for place, number in enumerate(paper[0]) if number.sign != 0]
    found = Bar(unknowns, rows, used).like(paper[0])
    if found is None and not Bar(unknowns, rows, list(range(len(rows)))).are_like_one():
        found = _by_search(unknowns, rows, used)
    return paper if found is None else found


def _by_search(unknowns, rows, used):
    """A short bar, None if none is found. What takes less work goes first."""
    quarrel = Quarrel(unknowns, rows)
    found = _by_few(unknowns, rows, quarrel.fewest(FEW))
    if found is None:
        found = _by_rows(unknowns, rows, used)
    if found is None:
        found = _by_few(unknowns, rows, quarrel.fewest(MOST_FEW))
    if found is None and len(used) < len(rows):
        found = _by_rows(unknowns, rows, list(range(len(rows))))
    return found


def _by_few(unknowns, rows, places):
    """A short bar by the few rows that were found, None if none is found."""
    return None if places is None else Bar(unknowns, rows, places).found()


def _by_rows(unknowns, rows, places):
    """A short bar by these rows, None if none is found, or if they have one bar alone, but for its multiples."""
    bars = Bar(unknowns, rows, places)
    return None if bars.are_like_one() else bars.found()


def hitting(sets, many):
    """At most so many members, at least one of each set; None if so many are not enough."""
    if len(sets) == 0:
        return []
    if many == 0:
        return None
    for member in sets[0]:
        told = hitting([one for one in sets if member not in one], many - 1)
        if told is not None:
            return [member] + told
    return None


class Quarrel:
    """Rows without a solution, of which the fewest are looked for that have none. It changes by what it has asked."""

    def __init__(self, unknowns, rows):
        self._unknowns = unknowns
        self._rows = rows
        self._asked = 0
        # Each set is of rows outside of some that have a solution: one of it is in all rows that have none.
        self._sets = []

    def fewest(self, most):
        """The positions of the fewest rows, at most so many, that have no solution.

        None if there are none, or the work is too much.
        """
        while self._asked < MOST_ASKED:
            chosen = None
            for many in range(most + 1):
                if chosen is None:
                    chosen = hitting(self._sets, many)
            if chosen is None:
                return None
            values = self._solution(chosen)
            if values is None:
                return sorted(chosen)
            self._sets = sorted(self._sets + [self._left_by(chosen, values)], key=len)
        return None

    def _solution(self, places):
        self._asked = self._asked + 1
        solver = Solver(self._unknowns, [self._rows[place] for place in places])
        if solver.bar() is not None:
            return None
        return solver.found()

    def _left_by(self, chosen, values):
        """The rows that some values do not keep that keep the chosen ones, and as many others as is tried."""
        kept = list(chosen)
        for place, row in enumerate(self._rows):
            if len(kept) < len(chosen) + MORE_KEPT and place not in chosen and not _is_kept(row, values):
                found = self._solution(kept + [place])
                if found is not None:
                    kept, values = kept + [place], found
        return [place for place, row in enumerate(self._rows) if not _is_kept(row, values)]


def _is_kept(row, values):
    weights, word, bound = row
    rest = sum_of_products(weights, values) - bound
    return rest.sign == 0 or (rest.sign < 0 and word == AT_MOST)


class Bar:
    """The bars of a system that take some of its rows alone."""

    def __init__(self, unknowns, rows, places):
        self._unknowns = unknowns
        self._places = places
        self._many = len(rows)
        # Vectors count rows without what their weights share: it is among these that short ones are looked for.
        self._factors = [shared_factor(rows[place][0]) for place in places]
        self._rows = [divided_row(rows[place], factor) for place, factor in zip(places, self._factors)]

    def _columns_without_ends(self):
        """The integers by which multipliers come to 0 at the unknowns without ends."""
        columns = [whole_multiples([row[0][place] for row in self._rows])[0]
                   for place, (low, high) in enumerate(self._unknowns) if low is None and high is None]
        return [column for column in columns if any([part != 0 for part in column])]

    def are_like_one(self):
        """Whether all bars are multiples of one."""
        return len(self._rows) - rank_by_prime(self._columns_without_ends()) <= 1

    def found(self):
        """A short bar, None if none is found."""
        many = len(self._rows)
        wide = [place for place, (low, high) in enumerate(self._unknowns)
                if low is not None and high is not None and low != high]
        lines = [Line([1 if at == place else 0 for at in range(many)], [0 for _ in wide], False)
                 for place, row in enumerate(self._rows) if row[1] == AT_MOST]
        total = [-row[2] for row in self._rows]
        for place, (low, high) in enumerate(self._unknowns):
            weights = [row[0][place] for row in self._rows]
            if low is None and high is None:
                continue
            end = high if low is None else low
            total = [part + weight * end for part, weight in zip(total, weights)]
            if low is None:
                weights = [-weight for weight in weights]
            if low is None or high is None or place in wide:
                lines.append(_line(weights, [1 if at == place else 0 for at in wide], False))
        gaps = [self._unknowns[place][0] - self._unknowns[place][1] for place in wide]
        lines.append(_line(total, gaps, True))
        return Cone(lines, len(wide), self).found(units(many), self._columns_without_ends())

    def like(self, multipliers):
        """The bar with these multipliers of all rows, but for what they share; None if it is long."""
        own = [multipliers[place] * factor for place, factor in zip(self._places, self._factors)]
        return self.told(least_whole(whole_multiples(own)[0]))

    def told(self, vector):
        """The bar that has a vector's multipliers, None if it is long or none."""
        numbers = ratios_of(vector)
        sums = [sum_of_products(numbers, [row[0][place] for row in self._rows]) for place in range(len(self._unknowns))]
        total = sum_of_products(numbers, [row[2] for row in self._rows])
        for (low, high), left in zip(self._unknowns, sums):
            end = low if left.sign > 0 else high
            if left.sign != 0 and end is None:
                return None
            if left.sign != 0:
                total = total - left * end
        if total.sign >= 0 or any([row[1] == AT_MOST and part < 0 for row, part in zip(self._rows, vector)]):
            return None
        multipliers = [Ratio(0) for _ in range(self._many)]
        for place, number, factor in zip(self._places, numbers, self._factors):
            multipliers[place] = number.over(factor)
        lows = [left if left.sign > 0 else Ratio(0) for left in sums]
        highs = [-left if left.sign < 0 else Ratio(0) for left in sums]
        paper = (multipliers, lows, highs)
        return paper if all([are_short(part) for part in paper]) else None


def divided_row(row, factor):
    """A row with all its numbers divided by a Ratio above 0."""
    weights, word, bound = row
    return ([weight.over(factor) for weight in weights], word, bound.over(factor))


def _line(weights, free, is_strict):
    """The Line of a sum of Ratios."""
    whole = whole_multiples(weights + ratios_of(free))[0]
    return Line(whole[:len(weights)], whole[len(weights):], is_strict)
