"""Conditions to try, their moves and chains by plain searches, and the sums of [53] to [55] over Fractions."""

from fractions import Fraction
from itertools import product

from lateledger.moves import Moves
from lateledger.ratios import Ratio
from tests.support import fraction

GOODS = ["x", "y", "z", "u"]


def some_moves(source, most_goods=3, most_conditions=6, size=3):
    goods = source.sample(GOODS, source.randint(1, most_goods))
    places = [None, *goods]
    conditions = []
    for _ in range(source.randint(0, most_conditions)):
        if conditions and source.random() < 0.15:
            one, other, most = source.choice(conditions)
            conditions.append((one, other, most + source.choice([0, 0, 1])))
        else:
            conditions.append((*source.sample(places, 2), source.randint(-size + 1, size)))
    return Moves(goods, conditions)


def some_holdings(source, goods):
    told = {good: source.choice([source.randint(-3, 3), Ratio(source.randint(-5, 5), source.randint(1, 4))])
            for good in goods if source.random() < 0.8}
    return told


def keeps(conditions, changes):
    told = {good: fraction(number) for good, number in changes.items()}
    told[None] = Fraction(0)
    return all(told[one] - told[other] <= most for one, other, most in conditions)


def grid_moves(moves, size):
    """All moves of INTEGERS of at most this size."""
    goods = moves.goods()
    for choice in product(range(-size, size + 1), repeat=len(goods)):
        changes = dict(zip(goods, choice))
        if keeps(moves.conditions(), changes):
            yield changes


def all_chains(moves, most):
    """All chains of at most so many conditions, shorter ones first, then sorted."""
    conditions = moves.conditions()
    last = [[position] for position in range(len(conditions))]
    found = list(last)
    for _ in range(most - 1):
        last = [chain + [position] for chain in last for position in range(len(conditions))
                if conditions[chain[-1]][1] == conditions[position][0]]
        found += last
    return found


def sum_of_chain(moves, chain):
    return sum(moves.conditions()[position][2] for position in chain)


def ends_of_chain(moves, chain):
    return (moves.conditions()[chain[0]][0], moves.conditions()[chain[-1]][1])


def least_ring(moves):
    for chain in all_chains(moves, len(moves.goods()) + 1):
        one, other = ends_of_chain(moves, chain)
        if one == other and sum_of_chain(moves, chain) < 0:
            return chain
    return None


def least_chain(moves, first, second):
    """The least sum, and the first chain that has it; Nones without a chain. Only without a ring."""
    told = [chain for chain in all_chains(moves, len(moves.goods())) if ends_of_chain(moves, chain) == (first, second)]
    if not told:
        return None, None
    least = min(sum_of_chain(moves, chain) for chain in told)
    return least, [chain for chain in told if sum_of_chain(moves, chain) == least][0]


def loss_by_sums(holdings, changes):
    return -sum((fraction(number) * fraction(changes[good]) for good, number in holdings.items()), Fraction(0))


def is_cover_paper_by_sums(moves, holdings, paper):
    move, weights = paper
    if not keeps(moves.conditions(), move) or len(weights) != len(moves) or any(fraction(number) < 0 for number in weights):
        return False
    told = {good: -fraction(holdings.get(good, 0)) for good in moves.goods()}
    total = Fraction(0)
    for (one, other, most), weight in zip(moves.conditions(), weights):
        if one is not None:
            told[one] -= fraction(weight)
        if other is not None:
            told[other] += fraction(weight)
        total += fraction(weight) * most
    return all(number == 0 for number in told.values()) and total == loss_by_sums(holdings, move)


def is_family_by_sums(moves, holdings, paper):
    move, direction = paper
    flat = [(one, other, 0) for one, other, _ in moves.conditions()]
    return keeps(moves.conditions(), move) and keeps(flat, direction) and loss_by_sums(holdings, direction) > 0
