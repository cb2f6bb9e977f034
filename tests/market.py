"""Rounds by a plain search over all corners, and prices by elimination, over Fractions; and rounds to try."""

from fractions import Fraction
from itertools import combinations, product

from lateledger.orders import Order, Round
from lateledger.ratios import Ratio

GOODS = ["corn", "oil", "tea", "wine"]


def ratio(number):
    return Ratio(number.numerator, number.denominator)


def ratios(numbers):
    return {name: ratio(number) for name, number in numbers.items()}


def some_round(source, most_orders=5, most_goods=3, size=3):
    goods = source.sample(GOODS, source.randint(1, most_goods))
    orders = {}
    for name in source.sample(["a", "b", "c", "d", "e", "f", "g", "h"], source.randint(0, most_orders)):
        bundle = {good: source.randint(-size, size) for good in goods if source.random() < 0.7}
        orders[name] = Order(source.choice(["ann", "bob", "cy"]), bundle, source.randint(-9, 9), source.choice([0, 1, 2, 3, 5]))
    return Round(orders)


def solved(columns, wanted):
    """The only numbers with which the columns come to what is wanted, None if there are none or more."""
    rows = [[Fraction(column[at]) for column in columns] + [Fraction(wanted[at])] for at in range(len(wanted))]
    at = 0
    for place in range(len(columns)):
        pivots = [row for row in range(at, len(rows)) if rows[row][place] != 0]
        if not pivots:
            return None
        rows[at], rows[pivots[0]] = rows[pivots[0]], rows[at]
        rows[at] = [number / rows[at][place] for number in rows[at]]
        for other in range(len(rows)):
            if other != at and rows[other][place] != 0:
                rows[other] = [one - rows[other][place] * two for one, two in zip(rows[other], rows[at])]
        at += 1
    if any(row[-1] != 0 for row in rows[at:]):
        return None
    return [rows[place][-1] for place in range(len(columns))]


def corners(deals):
    """All fills in which no part of the orders could be changed by itself: dicts to Fractions."""
    orders, goods = deals.orders(), deals.goods()
    columns = {name: [order.bundle().get(good, 0) for good in goods] for name, order in orders.items()}
    found = []
    for many in range(min(len(goods), len(orders)) + 1):
        for between in combinations(orders, many):
            others = [name for name in orders if name not in between]
            for full in product([0, 1], repeat=len(others)):
                fills = {name: Fraction(orders[name].most * is_full) for name, is_full in zip(others, full)}
                wanted = [-sum(columns[name][at] * fills[name] for name in others) for at in range(len(goods))]
                told = solved([columns[name] for name in between], wanted)
                if told is not None and all(0 <= number <= orders[name].most for name, number in zip(between, told)):
                    fills.update(zip(between, told))
                    found.append(fills)
    return found


def gain_by_sums(deals, fills):
    return sum((Fraction(order.limit) * fills[name] for name, order in deals.orders().items()), Fraction(0))


def best_corners(deals):
    """The greatest gain, and all corners that have it."""
    told = corners(deals)
    most = max(gain_by_sums(deals, fills) for fills in told)
    return most, [fills for fills in told if gain_by_sums(deals, fills) == most]


def rows_of_prices(deals, fills):
    """The rows (numbers, bound), each a sum that is at most the bound, kept by the prices that support best fills."""
    rows = []
    for name, order in deals.orders().items():
        numbers = [Fraction(order.bundle().get(good, 0)) for good in deals.goods()]
        if fills[name] > 0:
            rows.append((numbers, Fraction(order.limit)))
        if fills[name] < order.most:
            rows.append(([-number for number in numbers], Fraction(-order.limit)))
    return rows


def span_by_elimination(rows, many, place):
    """The least and the greatest value of an unknown in what solves the rows, the others taken out one by one."""
    for other in range(many):
        if other != place:
            above = [row for row in rows if row[0][other] > 0]
            below = [row for row in rows if row[0][other] < 0]
            fresh = {}
            for row in rows:
                if row[0][other] == 0:
                    fresh[tuple(row[0]), row[1]] = True
            for one in above:
                for two in below:
                    scale, turned = -1 / two[0][other], 1 / one[0][other]
                    numbers = tuple(left * turned + right * scale for left, right in zip(one[0], two[0]))
                    fresh[numbers, one[1] * turned + two[1] * scale] = True
            rows = [(list(numbers), bound) for numbers, bound in fresh]
    lows = [bound / numbers[place] for numbers, bound in rows if numbers[place] < 0]
    highs = [bound / numbers[place] for numbers, bound in rows if numbers[place] > 0]
    return (max(lows) if lows else None, min(highs) if highs else None)


def told_by_elimination(deals, fills):
    """The told prices of [34]."""
    goods = deals.goods()
    rows = rows_of_prices(deals, fills)
    told = {}
    for place, good in enumerate(goods):
        low, high = span_by_elimination(rows, len(goods), place)
        price = low if low is not None else high if high is not None else Fraction(0)
        told[good] = price
        one = [Fraction(at == place) for at in range(len(goods))]
        rows = rows + [(one, price), ([-number for number in one], -price)]
    return told
