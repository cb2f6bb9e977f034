"""Prices of a round: which support fills, which are told, and what is traded at them."""

from lateledger.errors import InvalidGood, InvalidPrices
from lateledger.fills import are_fills, are_of_just, check_fills, check_round, first_fills
from lateledger.ratios import Ratio, ratio_of, ratios_of, sum_of_products
from lateledger.solving import Solver
from lateledger.systems import AT_MOST
from lateledger.words import is_among, is_pair


def _are_prices(deals, value):
    return are_of_just(deals.goods(), value)


def _check_prices(deals, prices):
    if not _are_prices(deals, prices):
        raise InvalidPrices(prices)


def are_prices(deals, value):
    """Whether any value is prices of the round."""
    check_round(deals)
    return _are_prices(deals, value)


def _cost(bundle, prices):
    return sum_of_products(list(bundle.values()), [prices[good] for good in bundle])


def _surplus(order, prices):
    return order.limit - _cost(order.bundle(), prices)


def surplus(deals, prices, name):
    """The limit of an order less what its bundle costs."""
    check_round(deals)
    _check_prices(deals, prices)
    return _surplus(deals[name], prices)


def bound(deals, prices):
    """The sum of surplus times most over the orders with a surplus above 0: no gain is greater."""
    check_round(deals)
    _check_prices(deals, prices)
    told = [(_surplus(order, prices), order.most) for order in list(deals.orders().values())]
    return Ratio.total([left * most for left, most in told if left.sign > 0])


def do_support(deals, fills, value):
    """Whether any value is prices of the round that support the fills."""
    check_round(deals)
    check_fills(deals, fills)
    return _are_prices(deals, value) and _do_support(deals, fills, value)


def _do_support(deals, fills, prices):
    for name, order in deals.orders().items():
        sign = _surplus(order, prices).sign
        fill = ratio_of(fills[name])
        if (sign > 0 and fill != Ratio(order.most)) or (sign < 0 and fill.sign != 0):
            return False
    return True


def is_supported(deals, value):
    """Whether any value is a tuple of fills of the round and prices that support them."""
    check_round(deals)
    if not is_pair(value) or not are_fills(deals, value[0]) or not _are_prices(deals, value[1]):
        return False
    return _do_support(deals, value[0], value[1])


def _rows_of_support(deals):
    """The rows that are kept by just the prices that support the best fills."""
    goods = deals.goods()
    fills = first_fills(deals)
    rows = []
    for name, order in deals.orders().items():
        bundle = order.bundle()
        numbers = ratios_of([bundle.get(good, 0) for good in goods])
        if fills[name].sign > 0:
            rows.append((numbers, AT_MOST, Ratio(order.limit)))
        if fills[name].is_below(order.most):
            rows.append(([-number for number in numbers], AT_MOST, Ratio(-order.limit)))
    return rows


def _span_by(ends, rows, place):
    """The tuple of the least and the greatest value of an unknown, None for an end that there is not."""
    solver = Solver(ends, rows)
    solver.bar()
    found = []
    for sign in (-1, 1):
        found.append(solver.found()[place] if solver.way_of(place, sign) is None else None)
    return tuple(found)


def told_prices(deals):
    """The prices that are told: good by good the least, or else the greatest, or else 0."""
    check_round(deals)
    rows = _rows_of_support(deals)
    ends = [(None, None) for _ in deals.goods()]
    told = {}
    for place, good in enumerate(deals.goods()):
        least, greatest = _span_by(ends, rows, place)
        price = least
        if price is None:
            price = Ratio(0) if greatest is None else greatest
        told[good] = price
        ends[place] = (price, price)
    return told


def price_span(deals, good):
    """The tuple of the least and the greatest price of a good in prices that support the best fills."""
    check_round(deals)
    goods = deals.goods()
    if not is_among(goods, good):
        raise InvalidGood(good)
    return _span_by([(None, None) for _ in goods], _rows_of_support(deals), goods.index(good))


def trades(deals, fills, prices):
    """The list of the tuples (name, house, goods, coin) of the orders whose fill is not 0."""
    check_round(deals)
    check_fills(deals, fills)
    _check_prices(deals, prices)
    told = []
    for name, order in deals.orders().items():
        fill = ratio_of(fills[name])
        if fill.sign != 0:
            bundle = order.bundle()
            goods = {good: fill * number for good, number in bundle.items()}
            told.append((name, order.house, goods, fill * _cost(bundle, prices)))
    return told
