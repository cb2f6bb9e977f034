"""The cover of several houses together, and how it is shared."""

from lateledger.cover import Losses, are_holdings, losses_with_cover, lost_by
from lateledger.errors import InvalidHolders, InvalidSharing, NoMove
from lateledger.fills import are_of_just
from lateledger.moves import has_move
from lateledger.ratios import Ratio, ratio_of
from lateledger.words import is_name

MOST_HOUSES = 8


def _check_holders(moves, houses):
    if not isinstance(houses, dict) or not 1 <= len(houses) <= MOST_HOUSES:
        raise InvalidHolders(houses)
    if not all([is_name(house) and are_holdings(moves, holdings) for house, holdings in houses.items()]):
        raise InvalidHolders(houses)


def _sums(moves, houses, group):
    """The sums of the holdings of a group of the houses, without 0."""
    told = {}
    for good in moves.goods():
        total = Ratio.total([houses[house].get(good, 0) for house in group])
        if total.sign != 0:
            told[good] = total
    return told


def together(moves, houses):
    """The dict of the sums of the holdings of all houses."""
    _check_holders(moves, houses)
    return _sums(moves, houses, list(houses))


def joint_cover(moves, houses):
    """The cover of the holdings of all houses together."""
    return losses_with_cover(moves, together(moves, houses)).cover()


def saved(moves, houses):
    """The covers of all houses less the joint one; None if some house has a family."""
    _check_holders(moves, houses)
    if not has_move(moves):
        raise NoMove()
    told = [Losses(moves, holdings) for holdings in list(houses.values())]
    if any([losses.outcome() == "family" for losses in told]):
        return None
    return Ratio.total([losses.cover() for losses in told]) - joint_cover(moves, houses)


def fair_sharing(moves, houses):
    """A fair sharing: what each house loses by one worst move of all together."""
    worst = losses_with_cover(moves, together(moves, houses)).worst()
    return {house: lost_by(houses[house], worst) for house in sorted(houses)}


def _is_sharing(houses, value, joint):
    """Whether any value is a dict from just the houses to NUMBERS that add up to the joint cover."""
    return are_of_just(list(houses), value) and Ratio.total(list(value.values())) == joint


def _groups(names):
    """The list of all groups of some sorted names, smaller ones first, then sorted."""
    told, last = [], [[]]
    for _ in names:
        last = [[*group, name] for group in last for name in names if len(group) == 0 or group[-1] < name]
        told = told + last
    return told


def _first_overpaying(moves, houses, sharing):
    for group in _groups(sorted(houses)):
        losses = Losses(moves, _sums(moves, houses, group))
        shares = Ratio.total([ratio_of(sharing[house]) for house in group])
        if losses.outcome() == "cover" and losses.cover().is_below(shares):
            return group
    return None


def overpaying(moves, houses, sharing):
    """The first group that overpays, smaller ones first, then sorted; None without one."""
    joint = joint_cover(moves, houses)
    if not _is_sharing(houses, sharing, joint):
        raise InvalidSharing(sharing)
    return _first_overpaying(moves, houses, sharing)


def is_fair(moves, houses, value):
    """Whether any value is a fair sharing."""
    losses = Losses(moves, together(moves, houses))
    if losses.outcome() != "cover" or not _is_sharing(houses, value, losses.cover()):
        return False
    return _first_overpaying(moves, houses, value) is None
