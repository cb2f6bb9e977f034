"""Fills of a round: how much of each order is done, and which fills gain most."""

from lateledger.errors import InvalidFills, InvalidRound, UnknownOrder
from lateledger.orders import Round
from lateledger.ratios import Ratio, is_number, ratio_of, ratios_of, sum_of_products
from lateledger.solving import Solver
from lateledger.systems import EQUALS, lies_within
from lateledger.words import is_keyed_among


def check_round(deals):
    """InvalidRound unless the value is a Round."""
    if not isinstance(deals, Round):
        raise InvalidRound(deals)


def check_fills(deals, fills):
    """InvalidFills unless the value is fills of the round."""
    if not are_fills(deals, fills):
        raise InvalidFills(fills)


def are_of_just(names, value):
    """Whether any value is a dict from just these names to NUMBERS."""
    if not is_keyed_among(names, value) or len(value) != len(names):
        return False
    return all([is_number(value[name]) for name in names])


def are_fills(deals, value):
    """Whether any value is fills of the round."""
    orders = deals.orders()
    if not are_of_just(list(orders), value):
        return False
    for name, order in orders.items():
        if not lies_within(value[name], Ratio(0), Ratio(order.most)):
            return False
    fills = [value[name] for name in orders]
    return all([sum_of_products(row, fills).sign == 0 for row in _rows_of_goods(deals)])


def _rows_of_goods(deals):
    """For each good the list of the orders' numbers of it."""
    bundles = [order.bundle() for order in list(deals.orders().values())]
    return [[bundle.get(good, 0) for bundle in bundles] for good in deals.goods()]


def _limits(deals):
    return [order.limit for order in list(deals.orders().values())]


def _best_solver(deals):
    """A Solver of which the unknowns are the fills; it stands at best ones."""
    ends = [(Ratio(0), Ratio(order.most)) for order in list(deals.orders().values())]
    rows = [(ratios_of(row), EQUALS, Ratio(0)) for row in _rows_of_goods(deals)]
    solver = Solver(ends, rows, [ratios_of(_limits(deals))])
    # Fills of 0 are always there, and none go on without end.
    solver.bar()
    solver.way()
    return solver


def is_fills(deals, value):
    """Whether any value is fills of the round."""
    check_round(deals)
    return are_fills(deals, value)


def gain(deals, fills):
    """The sum of the limits times the fills."""
    check_round(deals)
    check_fills(deals, fills)
    return gain_of_fills(deals, fills)


def gain_of_fills(deals, fills):
    """The gain of what are fills of the round."""
    return sum_of_products(_limits(deals), [ratio_of(fills[name]) for name in deals.orders()])


def greatest_gain(deals):
    """The greatest gain of fills of the round."""
    check_round(deals)
    return sum_of_products(_limits(deals), _best_solver(deals).found())


def first_fills(deals):
    """The best fills with the greatest fill of the first order, of these of the second one, and so on."""
    check_round(deals)
    solver = _best_solver(deals)
    solver.way_first()
    return {name: number for name, number in zip(list(deals.orders()), solver.found())}


def fill_span(deals, name):
    """The tuple of the least and the greatest fill of an order in best fills."""
    check_round(deals)
    if name not in deals:
        raise UnknownOrder(name)
    place = list(deals.orders()).index(name)
    solver = _best_solver(deals)
    solver.way_behind([(place, -1)])
    least = solver.found()[place]
    solver.way_behind([(place, 1)])
    return (least, solver.found()[place])


def is_sure(deals, name):
    """Whether an order has the same fill in all best fills."""
    least, greatest = fill_span(deals, name)
    return least == greatest


def better_fills(deals, fills):
    """Fills with a greater gain, None if these are best."""
    check_round(deals)
    check_fills(deals, fills)
    if gain_of_fills(deals, fills) == greatest_gain(deals):
        return None
    return first_fills(deals)


def brings(deals, names):
    """What some orders bring: by how much the greatest gain is less without them."""
    return greatest_gain(deals) - greatest_gain(deals.without(names))
