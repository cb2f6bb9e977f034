"""How much the lines of a clearing carry, and the sets of houses that hold more back."""

from lateledger.carrying import greatest_solver, span_of
from lateledger.errors import InvalidSet
from lateledger.lines import are_payments, volume_of
from lateledger.ratios import Ratio, whole_multiples
from lateledger.words import is_among, is_list


class Bounds:
    """The bounds of all sets of houses, each a whole number over one bottom. A set is a number of bits."""

    def __init__(self, clearing):
        self._houses = clearing.houses()
        owed, bottom = whole_multiples(list(clearing.owed().values()))
        self._bottom = bottom
        self._owed = owed
        places = {house: at for at, house in enumerate(self._houses)}
        self._lines = [(places[line[0]], places[line[1]], line[2] * bottom) for line in clearing.lines()]

    def _bound(self, chosen):
        total = 0
        for place, number in enumerate(self._owed):
            is_in = (chosen >> place) & 1
            if (number > 0 and not is_in) or (number < 0 and is_in):
                total = total + abs(number)
        for one, other, most in self._lines:
            if (chosen >> one) & 1 and not (chosen >> other) & 1:
                total = total + most
        return total

    def of(self, houses):
        """The bound of a set, a list of houses."""
        chosen = 0
        for place, house in enumerate(self._houses):
            if house in houses:
                chosen = chosen | (1 << place)
        return Ratio(self._bound(chosen), self._bottom)

    def least(self):
        """The least bound."""
        return Ratio(min([self._bound(chosen) for chosen in range(1 << len(self._houses))]), self._bottom)

    def least_sets(self):
        """The lists of houses of the fewest and of the most least set."""
        bounds = [self._bound(chosen) for chosen in range(1 << len(self._houses))]
        least = min(bounds)
        fewest, most = len(bounds) - 1, 0
        for chosen, number in enumerate(bounds):
            if number == least:
                fewest = fewest & chosen
                most = most | chosen
        return self._named(fewest), self._named(most)

    def _named(self, chosen):
        return [house for place, house in enumerate(self._houses) if (chosen >> place) & 1]


def are_unlike_houses(clearing, value):
    """Whether any value is a list of unlike houses of the clearing."""
    return is_list(value) and _wrong_place(clearing, value) is None


def _wrong_place(clearing, some):
    """The first place with no house of the clearing, or with one that stands ahead; None without one."""
    houses = clearing.houses()
    for position, house in enumerate(some):
        if not is_among(houses, house) or house in some[:position]:
            return position
    return None


def bound(clearing, some):
    """The bound of the set of some houses."""
    if not is_list(some):
        raise InvalidSet(None)
    wrong = _wrong_place(clearing, some)
    if wrong is not None:
        raise InvalidSet(wrong)
    return Bounds(clearing).of(some)


def is_least(clearing, value):
    """Whether any value is a list of the houses of a least set."""
    if not are_unlike_houses(clearing, value):
        return False
    bounds = Bounds(clearing)
    return bounds.of(value) == bounds.least()


def fewest_set(clearing):
    """The sorted list of the houses that all least sets have."""
    return Bounds(clearing).least_sets()[0]


def most_set(clearing):
    """The sorted list of the houses that some least set has."""
    return Bounds(clearing).least_sets()[1]


def greatest_volume(clearing):
    """The greatest volume of fitting payments: the least bound."""
    return Bounds(clearing).least()


def is_all_paid(clearing):
    """Whether some payments pay all that is owed."""
    return greatest_volume(clearing) == clearing.all_owed()


def is_greatest(clearing, value):
    """Whether any value is a list of greatest payments."""
    return are_payments(clearing, value) and volume_of(clearing, value) == greatest_volume(clearing)


def narrow(clearing):
    """The sorted list of the pairs of houses between which a line more makes the greatest volume greater."""
    fewest, most = Bounds(clearing).least_sets()
    return [(one, other) for one in fewest for other in clearing.houses() if other not in most]


def needless(clearing):
    """The sorted list of the lines without which the greatest volume is the same."""
    volume = greatest_volume(clearing)
    return [line for line in clearing.lines() if greatest_volume(clearing - line) == volume]


def paid_spans(clearing):
    """The dict from all houses to the tuples of the least and the most that each has paid in greatest payments."""
    solver = greatest_solver(clearing, False)
    first = len(clearing)
    return {house: span_of(solver, first + at) for at, house in enumerate(clearing.houses())}
