"""Quotes as rows of a system: of the weights of futures, or of what is bought and sold."""

from lateledger.orders import told_bundle
from lateledger.ratios import Ratio, ratio_of, ratios_of
from lateledger.shorter import shorter, shorter_best, shorter_direction
from lateledger.solving import Solver
from lateledger.systems import AT_MOST


def sides_of(quotes):
    """The sorted list of the sides of what are quotes."""
    told = []
    for position, (_, bid, ask) in enumerate(quotes):
        if ask is not None:
            told.append((position, "ask"))
        if bid is not None:
            told.append((position, "bid"))
    return told


def values_of_quotes(futures, quotes):
    """The dict from the futures to the lists of what the quotes' bundles are worth there."""
    told = [futures.all_worths(quote[0]) for quote in quotes]
    return {name: [worths[name] for worths in told] for name in futures.names()}


def _rows_of_sides(futures, quotes):
    """The rows that are kept by just the weights that keep all sides."""
    rows = []
    for position, word in sides_of(quotes):
        bundle, bid, ask = quotes[position]
        worths = ratios_of(list(futures.all_worths(bundle).values()))
        if word == "ask":
            rows.append((worths, AT_MOST, ratio_of(ask)))
        else:
            rows.append(([-worth for worth in worths], AT_MOST, -ratio_of(bid)))
    return rows


def _unit(many, place, number):
    return [Ratio(number) if at == place else Ratio(0) for at in range(many)]


def fair_weights_of(futures, quotes, are_short):
    """Fair weights of the quotes, None if there are none; short ones are looked for if they are wanted."""
    names, rows = futures.names(), _rows_of_sides(futures, quotes)
    many = len(names)
    # One unknown more is at most each weight, and to be as great as can be, but at most 1.
    wide = [(weights + [Ratio(0)], word, bound) for weights, word, bound in rows]
    wide = wide + [(_unit(many, place, -1) + [Ratio(1)], AT_MOST, Ratio(0)) for place in range(many)]
    ends = [(None, None) for _ in names]
    solver = Solver(ends + [(None, Ratio(1))], wide, [_unit(many + 1, many, 1)])
    if solver.bar() is not None or solver.way() is not None or solver.found()[many].sign <= 0:
        return None
    found = solver.found()[:many]
    if are_short:
        above = [(_unit(many, place, -1), AT_MOST, Ratio(0)) for place in range(many)]
        found = shorter(ends, rows + above, found, list(range(len(rows), len(rows) + many)))
    return {name: number for name, number in zip(names, found)}


def _ends_of_deals(quotes):
    """The ends of what is bought and sold of each quote, one behind the other."""
    told = []
    for _, bid, ask in quotes:
        for price in (ask, bid):
            told.append((Ratio(0), Ratio(0) if price is None else None))
    return told


def _coins(quotes):
    """What one bought and one sold of each quote bring in coin now."""
    told = []
    for _, bid, ask in quotes:
        told.append(Ratio(0) if ask is None else -ratio_of(ask))
        told.append(Ratio(0) if bid is None else ratio_of(bid))
    return told


def _brought(worths):
    """What one bought and one sold of each quote bring in a future, with these worths."""
    return ratios_of([sign * worth for worth in worths for sign in (1, -1)])


def _deal_of(numbers):
    return [(numbers[at], numbers[at + 1]) for at in range(0, len(numbers), 2)]


def gain_of_deal(futures, quotes):
    """A sure gain of the quotes, None if there is none."""
    ends = _ends_of_deals(quotes)
    outcomes = [_coins(quotes)] + [_brought(worths) for worths in list(values_of_quotes(futures, quotes).values())]
    rows = [([-number for number in brought], AT_MOST, Ratio(0)) for brought in outcomes]
    total = [Ratio.total([brought[at] for brought in outcomes]) for at in range(len(ends))]
    solver = Solver(ends, rows, [total])
    # A deal of nothing is always there.
    solver.bar()
    direction = solver.way()
    if direction is None:
        return None
    return _deal_of(shorter_direction(ends, rows, [total], direction))


def _system_of_covers(futures, quotes, bundle):
    worths = futures.all_worths(bundle)
    rows = []
    for name, told in values_of_quotes(futures, quotes).items():
        rows.append(([-number for number in _brought(told)], AT_MOST, Ratio(-worths[name])))
    return _ends_of_deals(quotes), rows


def cheapest_cost(futures, quotes, bundle):
    """The least cost of a cover of a bundle, None without a cover. Only of fair quotes."""
    ends, rows = _system_of_covers(futures, quotes, bundle)
    coins = _coins(quotes)
    solver = Solver(ends, rows, [coins])
    if solver.bar() is not None:
        return None
    # Fair weights bound what covers cost.
    solver.way()
    return -Ratio.total([coin * number for coin, number in zip(coins, solver.found())])


def cheapest_cover(futures, quotes, bundle):
    """A cover of the least cost and weights of this value, None without a cover. Only of fair quotes."""
    ends, rows = _system_of_covers(futures, quotes, bundle)
    aims = [_coins(quotes)]
    solver = Solver(ends, rows, aims)
    if solver.bar() is not None:
        return None
    solver.way()
    values, support = shorter_best(ends, rows, aims, solver)
    return (_deal_of(values), {name: parts[0] for name, parts in zip(futures.names(), support)})


def rising_weights(futures, quotes, bundle):
    """A way for a bundle, None if there is none."""
    names = futures.names()
    rows = [(weights, word, Ratio(0)) for weights, word, _ in _rows_of_sides(futures, quotes)]
    aim = ratios_of(list(futures.all_worths(bundle).values()))
    ends = [(Ratio(0), None) for _ in names]
    solver = Solver(ends, rows, [aim])
    # Weights of 0 are always there.
    solver.bar()
    direction = solver.way()
    if direction is None:
        return None
    return {name: number for name, number in zip(names, shorter_direction(ends, rows, [aim], direction))}


def is_side_needless(futures, quotes, side):
    """Whether all weights, none below 0, that keep the other sides of fair quotes keep this one."""
    position, word = side
    bundle, bid, ask = quotes[position]
    others = without_side(quotes, side)
    turned = bundle if word == "ask" else {good: -number for good, number in bundle.items()}
    cost = cheapest_cost(futures, others, turned)
    return cost is not None and cost.is_at_most(ask if word == "ask" else -bid)


def without_side(quotes, side):
    """The list of the quotes as they are told, with None in the place of a side."""
    told = told_quotes(quotes)
    bundle, bid, ask = told[side[0]]
    told[side[0]] = (bundle, bid, None) if side[1] == "ask" else (bundle, None, ask)
    return told


def told_quotes(quotes):
    """The list of the quotes with bundles as they are told and Ratios."""
    return [(told_bundle(bundle), *[None if price is None else ratio_of(price) for price in (bid, ask)])
            for bundle, bid, ask in quotes]
