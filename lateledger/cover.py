"""How much holdings lose at most by a move, with papers for it."""

from lateledger.errors import InvalidHoldings, NoMove, WithoutEnd
from lateledger.fills import are_of_just
from lateledger.moves import check_move, has_move, is_move, some_move
from lateledger.ratios import Ratio, are_numbers, is_number, ratio_of, ratios_of, sum_of_products
from lateledger.solving import Solver
from lateledger.systems import AT_MOST
from lateledger.words import is_keyed_among, is_pair


def are_holdings(moves, value):
    """Whether any value is a dict from goods of the moves to NUMBERS."""
    return is_keyed_among(moves.goods(), value) and all([is_number(number) for number in list(value.values())])


def _check_holdings(moves, holdings):
    if not are_holdings(moves, holdings):
        raise InvalidHoldings(holdings)


def lost_by(holdings, changes):
    """What holdings lose by changes of all goods, below 0 if they gain."""
    return -sum_of_products(list(holdings.values()), [changes[good] for good in holdings])


class Losses:
    """The moves of some conditions, of which those are looked for that lose most of some holdings. It changes."""

    def __init__(self, moves, holdings):
        self._goods = moves.goods()
        rows = []
        for one, other, most in moves.conditions():
            signs = [1 if good == one else -1 if good == other else 0 for good in self._goods]
            rows.append((ratios_of(signs), AT_MOST, Ratio(most)))
        self._losses = [-ratio_of(holdings.get(good, 0)) for good in self._goods]
        self._solver = Solver([(None, None) for _ in self._goods], rows, [self._losses])
        self._has_move = self._solver.bar() is None
        self._endless = self._solver.way() if self._has_move else None

    def outcome(self):
        """Which there is: a "ring", a "family" or a "cover"."""
        if not self._has_move:
            return "ring"
        return "cover" if self._endless is None else "family"

    def direction(self):
        """The dict of the direction in which is lost without end."""
        return {good: number for good, number in zip(self._goods, self._endless)}

    def cover(self):
        """The most that is lost."""
        return sum_of_products(self._losses, self._solver.found())

    def worst(self):
        """The dict of a move by which most is lost, of Ratios that are whole.

        Each condition takes one change from another one, so where some of them are just kept all is whole.
        """
        return {good: number for good, number in zip(self._goods, self._solver.found())}

    def weights(self):
        """The list of the weights of the conditions by which nothing more is lost."""
        return [parts[0] for parts in self._solver.support()]


def losses_with_cover(moves, holdings):
    """The Losses of holdings: NoMove, WithoutEnd if they have no cover."""
    losses = Losses(moves, holdings)
    if losses.outcome() == "ring":
        raise NoMove()
    if losses.outcome() == "family":
        raise WithoutEnd()
    return losses


def loss(moves, holdings, move):
    """What holdings lose by a move."""
    _check_holdings(moves, holdings)
    check_move(moves, move)
    return lost_by(holdings, move)


def outcome(moves, holdings):
    """Which there is: a "ring", a "family" or a "cover"."""
    _check_holdings(moves, holdings)
    return Losses(moves, holdings).outcome()


def cover(moves, holdings):
    """The most that holdings lose by any move."""
    _check_holdings(moves, holdings)
    return losses_with_cover(moves, holdings).cover()


def worst_move(moves, holdings):
    """A move of INTEGERS by which the cover is lost."""
    _check_holdings(moves, holdings)
    return {good: number.top for good, number in losses_with_cover(moves, holdings).worst().items()}


def cover_paper(moves, holdings):
    """A cover paper: a worst move, and weights of the conditions."""
    _check_holdings(moves, holdings)
    losses = losses_with_cover(moves, holdings)
    return (losses.worst(), losses.weights())


def is_cover_paper(moves, holdings, value):
    """Whether any value is a cover paper."""
    _check_holdings(moves, holdings)
    if not is_pair(value) or not is_move(moves, value[0]):
        return False
    weights, conditions = value[1], moves.conditions()
    if not are_numbers(weights, len(conditions)) or any([ratio_of(weight).sign < 0 for weight in weights]):
        return False
    for good in moves.goods():
        signs = [1 if good == one else -1 if good == other else 0 for one, other, _ in conditions]
        if (sum_of_products(weights, signs) + holdings.get(good, 0)).sign != 0:
            return False
    return sum_of_products(weights, [condition[2] for condition in conditions]) == lost_by(holdings, value[0])


def family(moves, holdings):
    """A family: a move, and a direction in which is lost without end; None if there is none."""
    _check_holdings(moves, holdings)
    losses = Losses(moves, holdings)
    if losses.outcome() == "ring":
        raise NoMove()
    if losses.outcome() == "cover":
        return None
    move = some_move(moves)
    return ({good: Ratio(number) for good, number in move.items()}, losses.direction())


def is_family(moves, holdings, value):
    """Whether any value is a family."""
    _check_holdings(moves, holdings)
    if not is_pair(value) or not is_move(moves, value[0]) or not are_of_just(moves.goods(), value[1]):
        return False
    direction = {good: ratio_of(number) for good, number in value[1].items()}
    direction[None] = Ratio(0)
    if not all([direction[one].is_at_most(direction[other]) for one, other, _ in moves.conditions()]):
        return False
    return lost_by(holdings, direction).sign > 0


def tightened_covers(moves, holdings):
    """The list of the covers with each condition tightened, None where there is no move then."""
    _check_holdings(moves, holdings)
    losses_with_cover(moves, holdings)
    told = []
    for position in range(len(moves)):
        tight = moves.tightened(position)
        told.append(Losses(tight, holdings).cover() if has_move(tight) else None)
    return told


def mattering(moves, holdings):
    """The rising list of the positions of the conditions without which the holdings have no such cover."""
    _check_holdings(moves, holdings)
    told = losses_with_cover(moves, holdings).cover()
    found = []
    for position in range(len(moves)):
        losses = Losses(moves.without(position), holdings)
        if losses.outcome() != "cover" or losses.cover() != told:
            found.append(position)
    return found
