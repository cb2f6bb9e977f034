"""Claims to try, and what [92] asks of their papers, by the sums of the other helpers; and papers that are bent."""

from fractions import Fraction

from lateledger.ratios import Ratio
from tests.books import bars_numbers, differs, some_chart, some_report, some_reports, value_by_sums, weighs
from tests.changes import is_cover_paper_by_sums, is_family_by_sums, keeps, loss_by_sums, some_holdings, some_moves
from tests.late import WORDS, some_busy_facts, some_facts, some_market, steps_by_sums
from tests.linear import bars, leads, some_aims, some_system, solves, supports, worth_by_sums
from tests.market import gain_by_sums, some_round
from tests.pricing import are_fair_by_sums, ends_by_sums, gains_surely, is_deal_by_sums, outcome_by_sums, rises_by_sums
from tests.pricing import some_bundle, some_futures, some_quotes
from tests.support import fraction
from tests.trust import are_potentials_by_sums, bound_by_sums, cost_by_sums, fits, some_clearing, volume_by_sums


def is_number(value):
    return isinstance(value, Ratio) or isinstance(value, int) and not isinstance(value, bool)


def are_numbers(value, many):
    return isinstance(value, (list, tuple)) and len(value) == many and all(is_number(part) for part in value)


def are_named(value, names):
    return isinstance(value, dict) and set(value) == set(names) and all(is_number(part) for part in value.values())


def is_tuple(value, many):
    return isinstance(value, tuple) and len(value) == many


def as_fractions(told):
    return {name: fraction(number) for name, number in told.items()}


def is_entry(chart, value):
    return (isinstance(value, (list, tuple)) and len(value) > 0 and all(
        is_tuple(line, 3) and line[0] in chart.accounts() and line[1] in chart.units() and is_number(line[2])
        and fraction(line[2]) != 0 for line in value)
        and len({line[:2] for line in value}) == len(value)
        and all(sum(fraction(line[2]) for line in value if line[1] == unit) == 0 for unit in chart.units()))


def are_houses(clearing, value):
    return isinstance(value, (list, tuple)) and len(set(map(str, value))) == len(value) and all(
        isinstance(house, str) and house in clearing.houses() for house in value)


def are_payments(clearing, value):
    return are_numbers(value, len(clearing.lines())) and fits(clearing, value)


def all_owed(clearing):
    return sum((fraction(number) for number in clearing.owed().values() if fraction(number) > 0), Fraction(0))


def solved(paper, system):
    return are_numbers(paper, len(system)) and solves(system, paper)


def barred(paper, system):
    return (is_tuple(paper, 3) and are_numbers(paper[0], len(system.rows())) and are_numbers(paper[1], len(system))
            and are_numbers(paper[2], len(system)) and bars(system, paper))


def best(paper, system, aims, worth):
    if not is_tuple(paper, 2) or not solved(paper[0], system) or not isinstance(paper[1], (list, tuple)):
        return False
    if len(paper[1]) != len(system.rows()) or not all(isinstance(part, tuple) and are_numbers(part, len(aims)) for part in paper[1]):
        return False
    return supports(system, aims, paper[0], paper[1]) and list(worth_by_sums(aims, paper[0])) == [fraction(part) for part in worth]


def way(paper, system, aims):
    return (is_tuple(paper, 2) and solved(paper[0], system) and are_numbers(paper[1], len(system))
            and leads(system, aims, paper[0], paper[1]))


def told(paper, chart, kept, report):
    return isinstance(paper, dict) and set(paper) <= set(kept) and are_named(paper, list(paper)) and weighs(chart, kept, report, paper)


def apart(paper, chart, kept, report):
    return is_entry(chart, paper) and differs(kept, report, paper)


def stand(paper, chart, kept, numbers):
    if not isinstance(paper, (list, tuple)) or len(paper) > 1 or not all(is_entry(chart, entry) for entry in paper):
        return False
    return all(value_by_sums(paper, kept[name]) == fraction(numbers[name]) for name in kept)


def off(paper, chart, kept, numbers):
    return isinstance(paper, dict) and set(paper) <= set(kept) and are_named(paper, list(paper)) and bars_numbers(
        chart, kept, numbers, paper)


def gain(paper, deals, number):
    orders = deals.orders()
    if not is_tuple(paper, 2) or not are_named(paper[0], orders) or not are_named(paper[1], deals.goods()):
        return False
    fills, prices = as_fractions(paper[0]), as_fractions(paper[1])
    for good in deals.goods():
        if sum(order.bundle().get(good, 0) * fills[name] for name, order in orders.items()) != 0:
            return False
    for name, order in orders.items():
        left = order.limit - sum(many * prices[good] for good, many in order.bundle().items())
        if not 0 <= fills[name] <= order.most or left > 0 and fills[name] != order.most or left < 0 and fills[name] != 0:
            return False
    return gain_by_sums(deals, fills) == fraction(number)


def paid(paper, clearing):
    return are_payments(clearing, paper) and volume_by_sums(clearing, paper) == all_owed(clearing)


def held(paper, clearing):
    return are_houses(clearing, paper) and bound_by_sums(clearing, paper) < all_owed(clearing)


def cost(paper, clearing, number):
    if not is_tuple(paper, 3) or not are_payments(clearing, paper[0]) or not are_houses(clearing, paper[1]):
        return False
    if not is_tuple(paper[2], 3) or not are_named(paper[2][0], clearing.houses()) or not are_numbers(paper[2][1:], 2):
        return False
    return (cost_by_sums(clearing, paper[0]) == fraction(number)
            and bound_by_sums(clearing, paper[1]) == volume_by_sums(clearing, paper[0])
            and are_potentials_by_sums(clearing, paper[0], paper[2]))


def move(paper, moves):
    return are_named(paper, moves.goods()) and keeps(moves.conditions(), paper)


def ring(paper, moves):
    conditions = moves.conditions()
    if not isinstance(paper, (list, tuple)) or len(paper) == 0 or not all(
            isinstance(at, int) and not isinstance(at, bool) and 0 <= at < len(conditions) for at in paper):
        return False
    parts = [conditions[at] for at in paper]
    return all(part[1] == behind[0] for part, behind in zip(parts, parts[1:] + parts[:1])) and sum(part[2] for part in parts) < 0


def cover(paper, moves, holdings, number):
    return (is_tuple(paper, 2) and move(paper[0], moves) and are_numbers(paper[1], len(moves))
            and is_cover_paper_by_sums(moves, holdings, paper) and loss_by_sums(holdings, paper[0]) == fraction(number))


def family(paper, moves, holdings):
    return (is_tuple(paper, 2) and move(paper[0], moves) and are_named(paper[1], moves.goods())
            and is_family_by_sums(moves, holdings, paper))


def in_sequence(told_by):
    return {name: told_by[name] for name in sorted(told_by)}


def fair(paper, futures, quotes):
    return are_named(paper, futures.names()) and are_fair_by_sums(futures, quotes, in_sequence(paper))


def is_deal(quotes, value):
    return (isinstance(value, (list, tuple)) and len(value) == len(quotes)
            and all(is_tuple(part, 2) and are_numbers(part, 2) for part in value) and is_deal_by_sums(quotes, value))


def sure(paper, futures, quotes):
    return is_deal(quotes, paper) and gains_surely(futures, quotes, paper)


def end(paper, futures, quotes, bundle, number):
    if not is_tuple(paper, 2) or not fair(paper[0], futures, quotes) or not is_tuple(paper[1], 2):
        return False
    deal, weights = paper[1]
    return (is_deal(quotes, deal) and are_named(weights, futures.names())
            and ends_by_sums(futures, quotes, bundle, (deal, in_sequence(weights)))
            and -outcome_by_sums(futures, quotes, deal)[0] == fraction(number))


def open_end(paper, futures, quotes, bundle):
    return (is_tuple(paper, 2) and fair(paper[0], futures, quotes) and are_named(paper[1], futures.names())
            and rises_by_sums(futures, quotes, bundle, in_sequence(paper[1])))


def same(made, value):
    """Whether a value is what was made, INTEGERS for Ratios let, and nothing else."""
    if isinstance(made, Ratio):
        return is_number(value) and fraction(value) == fraction(made)
    if isinstance(made, dict):
        return isinstance(value, dict) and set(value) == set(made) and all(same(made[key], value[key]) for key in made)
    if isinstance(made, tuple):
        return is_tuple(value, len(made)) and all(same(one, other) for one, other in zip(made, value))
    return value.__class__ is made.__class__ and value == made


def makes_of(houses, goods, days, facts):
    steps = steps_by_sums(houses, goods, days, facts)
    return [steps[day, word][1] for day in range(1, days + 1) for word in WORDS]


def alike(paper, houses, goods, days, facts, others):
    one, other = makes_of(houses, goods, days, facts), makes_of(houses, goods, days, others)
    return (one == other and isinstance(paper, (list, tuple)) and len(paper) == len(one)
            and all(same(made, value) for made, value in zip(one, paper)))


def unlike(paper, houses, goods, days, facts, others):
    if not is_tuple(paper, 2) or not is_number(paper[0]) or isinstance(paper[0], Ratio) or not 1 <= paper[0] <= days:
        return False
    if not isinstance(paper[1], str) or paper[1] not in WORDS:
        return False
    at = (paper[0] - 1) * 8 + WORDS.index(paper[1])
    return makes_of(houses, goods, days, facts)[at] != makes_of(houses, goods, days, others)[at]


JUDGES = {"solved": solved, "barred": barred, "best": best, "way": way, "told": told, "apart": apart, "stand": stand, "off": off,
          "gain": gain, "paid": paid, "held": held, "cost": cost, "move": move, "ring": ring, "cover": cover, "family": family,
          "fair": fair, "sure": sure, "end": end, "open": open_end, "alike": alike, "unlike": unlike}


def is_paper_by_sums(claim, paper):
    return JUDGES[claim[0]](paper, *claim[1:])


def bent(value):
    """Values near to this one: a number otherwise, or of another kind, a part out or twice, a list for a tuple."""
    if isinstance(value, bool):
        return [not value, int(value), None]
    if isinstance(value, Ratio):
        return [value + 1, Ratio(0), -value, None, str(value), value.top if value.is_whole else value + Ratio(1, 7), bool(value.top)]
    if isinstance(value, int):
        return [value + 1, -value, Ratio(value), None, bool(value)]
    if isinstance(value, str):
        return [value + "x", "", None, [value]]
    found = [None, {}, [], ()]
    if isinstance(value, dict):
        for key in value:
            rest = {one: part for one, part in value.items() if one != key}
            found += [rest, {**rest, "new": value[key]}, {**value, "new": value[key]}, dict(reversed(value.items()))]
            found += [{**value, key: part} for part in bent(value[key])]
        return found + [list(value.items())]
    if isinstance(value, (list, tuple)):
        kind = value.__class__
        found.append(tuple(value) if kind is list else list(value))
        for at in range(len(value)):
            found += [value[:at] + value[at + 1:], value[:at + 1] + value[at:]]
            found += [value[:at] + kind([part]) + value[at + 1:] for part in bent(value[at])]
        return found + [value[::-1], value + kind([None])]
    return found


def some_run_claims(source):
    houses, goods, days = some_market(source)
    days = min(days, 2)
    facts = (some_busy_facts if source.random() < 0.5 else some_facts)(source, houses, goods, days, 4)
    others = source.sample(facts, len(facts))
    kind = source.random()
    if facts and kind < 0.3:
        others = others + [("zz", "strike", source.choice(facts)[0])]
    elif kind < 0.5:
        others = others + [("zz", 1, "transfer", houses[0], goods[0], 1)]
    elif facts and kind < 0.6:
        others = others[1:]
    return [("alike", houses, goods, days, facts, others), ("unlike", houses, goods, days, facts, others)]
