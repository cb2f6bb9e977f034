"""Conditions on the changes of prices, and the moves that keep them."""

from lateledger.chains import Chains
from lateledger.errors import InvalidCondition, InvalidConditions, InvalidGoods, InvalidMove, InvalidPair
from lateledger.errors import InvalidPosition, NoMove, OtherGoods, TooMany
from lateledger.fills import are_of_just
from lateledger.ratios import Ratio, ratio_of
from lateledger.words import is_among, is_count, is_good, is_integer, is_list, is_triple

MOST_GOODS = 4
MOST_CONDITIONS = 24


def _is_one_of(goods, value):
    """Whether any value is one of the goods, or None."""
    return value is None or is_among(goods, value)


def _is_condition(goods, value):
    """Whether any value is a condition on the goods."""
    if not is_triple(value):
        return False
    one, other, most = value
    return _is_one_of(goods, one) and _is_one_of(goods, other) and one != other and is_integer(most)


def _check_goods(goods):
    if not is_list(goods) or len(goods) == 0:
        raise InvalidGoods(None)
    ahead = {}
    for position, good in enumerate(goods):
        if not is_good(good) or good in ahead:
            raise InvalidGoods(position)
        ahead[good] = True


def _check_conditions(goods, conditions):
    if not is_list(conditions):
        raise InvalidConditions(None)
    for position, condition in enumerate(conditions):
        if not _is_condition(goods, condition):
            raise InvalidConditions(position)


class Moves:
    """Goods and conditions on the changes of their prices. It never changes."""

    def __init__(self, goods, conditions=()):
        _check_goods(goods)
        _check_conditions(goods, conditions)
        if len(goods) > MOST_GOODS:
            raise TooMany("goods", MOST_GOODS)
        if len(conditions) > MOST_CONDITIONS:
            raise TooMany("conditions", MOST_CONDITIONS)
        self._goods = sorted(goods)
        self._conditions = list(conditions)

    def goods(self):
        """The sorted list of the goods."""
        return list(self._goods)

    def conditions(self):
        """The list of the conditions."""
        return list(self._conditions)

    def _check_position(self, position):
        if not is_count(position) or position >= len(self._conditions):
            raise InvalidPosition(position)

    def without(self, position):
        """The Moves without the condition at a position."""
        self._check_position(position)
        return Moves(self._goods, self._conditions[:position] + self._conditions[position + 1:])

    def tightened(self, position):
        """The Moves in which the condition at a position has 1 less as its most."""
        self._check_position(position)
        one, other, most = self._conditions[position]
        told = self.conditions()
        told[position] = (one, other, most - 1)
        return Moves(self._goods, told)

    def __add__(self, other):
        if not _is_condition(self._goods, other):
            raise InvalidCondition(other)
        return Moves(self._goods, [*self._conditions, other])

    def __len__(self):
        return len(self._conditions)

    def __eq__(self, other):
        return isinstance(other, Moves) and self._goods == other._goods and self._conditions == other._conditions

    def __repr__(self):
        return f"Moves({self._goods!r}, {self._conditions!r})"


def chains_of(moves):
    """The Chains of the conditions."""
    return Chains(moves.goods(), moves.conditions())


def has_move(moves):
    """Whether there is a move of the conditions."""
    return not chains_of(moves).has_ring()


def positions_broken(moves, changes):
    """The rising list of the positions of the conditions that changes of all goods do not keep."""
    told = {good: ratio_of(number) for good, number in changes.items()}
    told[None] = Ratio(0)
    return [position for position, (one, other, most) in enumerate(moves.conditions())
            if not (told[one] - told[other]).is_at_most(most)]


def is_move(moves, value):
    """Whether any value is a move of the conditions."""
    return are_of_just(moves.goods(), value) and len(positions_broken(moves, value)) == 0


def check_move(moves, move):
    """InvalidMove unless the value is a move of the conditions."""
    if not is_move(moves, move):
        raise InvalidMove(move)


def is_ring(moves, value):
    """Whether any value is a ring of the conditions."""
    conditions = moves.conditions()
    if not is_list(value) or len(value) == 0:
        return False
    if not all([is_count(position) and position < len(conditions) for position in value]):
        return False
    told = [conditions[position] for position in value]
    for condition, ahead in zip(told, [told[-1]] + told[:-1]):
        if condition[0] != ahead[1]:
            return False
    return sum([condition[2] for condition in told]) < 0


def broken(moves, move):
    """The rising list of the positions of the conditions that a move does not keep."""
    if not are_of_just(moves.goods(), move):
        raise InvalidMove(move)
    return positions_broken(moves, move)


def some_move(moves):
    """A move of INTEGERS, None if there is none."""
    chains = chains_of(moves)
    return None if chains.has_ring() else chains.move()


def ring(moves):
    """Of the rings with the fewest conditions the least list; None without one."""
    return chains_of(moves).ring()


def _chains_for(moves, first, second):
    goods = moves.goods()
    if not _is_one_of(goods, first) or not _is_one_of(goods, second) or first == second:
        raise InvalidPair((first, second))
    chains = chains_of(moves)
    if chains.has_ring():
        raise NoMove()
    return chains


def tightest(moves, first, second):
    """The greatest difference of two changes in all moves, an INTEGER; None if there is no bound."""
    return _chains_for(moves, first, second).tightest(first, second)


def chain(moves, first, second):
    """Of the chains with the tightest bound and the fewest conditions the least list; None without a chain."""
    return _chains_for(moves, first, second).chain(first, second)


def _is_implied(goods, conditions, condition):
    """Whether all moves of some conditions keep one more."""
    chains = Chains(goods, conditions)
    if chains.has_ring():
        return True
    least = chains.tightest(condition[0], condition[1])
    return least is not None and least <= condition[2]


def needless(moves):
    """The rising list of the positions of the needless conditions."""
    conditions = moves.conditions()
    return [position for position, condition in enumerate(conditions)
            if _is_implied(moves.goods(), conditions[:position] + conditions[position + 1:], condition)]


def lean(moves):
    """The Moves left if each needless condition is left out, the last one first."""
    told = moves.conditions()
    for position in reversed(range(len(told))):
        rest = told[:position] + told[position + 1:]
        if _is_implied(moves.goods(), rest, told[position]):
            told = rest
    return Moves(moves.goods(), told)


def _check_same_goods(one, other):
    if one.goods() != other.goods():
        raise OtherGoods(one.goods(), other.goods())


def are_alike(one, other):
    """Whether both have the same moves."""
    return parting(one, other) is None


def parting(one, other):
    """A move of just one of both, None if they are alike."""
    _check_same_goods(one, other)
    for left, right in ((one, other), (other, one)):
        changes = _move_apart(left, right)
        if changes is not None:
            return {good: Ratio(number) for good, number in changes.items()}
    return None


def _move_apart(left, right):
    """A move of INTEGERS of the left one that breaks a condition of the right one; None if there is none."""
    goods, conditions = left.goods(), left.conditions()
    for one, other, most in right.conditions():
        # Mosts are INTEGERS, so a condition that can be broken can be by 1.
        chains = Chains(goods, conditions + [(other, one, -most - 1)])
        if not chains.has_ring():
            return chains.move()
    return None
