"""The cheapest payments of a clearing, and the potentials that show them to be so."""

from lateledger.carrying import greatest_solver, span_of
from lateledger.fills import are_of_just
from lateledger.flows import greatest_volume, is_greatest
from lateledger.lines import check_payments, cost_of, paid_by
from lateledger.ratios import Ratio, is_number, ratio_of, ratios_of
from lateledger.words import is_triple

# No house is called like these: names have letters alone.
START = "-start"
END = "-end"


def first(clearing):
    """The cheapest payments with the least payment on the first line, of these on the second one, and so on."""
    solver = greatest_solver(clearing, True)
    solver.way_behind([(place, -1) for place in range(len(clearing))])
    return solver.found()[:len(clearing)]


def least_cost(clearing):
    """The cost of the cheapest payments."""
    return cost_of(clearing, greatest_solver(clearing, True).found()[:len(clearing)])


def is_cheapest(clearing, value):
    """Whether any value is a list of cheapest payments."""
    return is_greatest(clearing, value) and cost_of(clearing, value) == least_cost(clearing)


def is_first(clearing, value):
    """Whether any value is a list of the first payments."""
    return is_greatest(clearing, value) and ratios_of(value) == first(clearing)


def _limits(clearing, payments):
    """The tuples (one, other, most) for which potentials have that of other at most that of one plus the most."""
    told = []
    for (one, other, most, cost), number in zip(clearing.lines(), ratios_of(payments)):
        if number.is_below(most):
            told.append((one, other, cost))
        if number.sign > 0:
            told.append((other, one, -cost))
    sums = paid_by(clearing, payments)
    for house, owed in clearing.owed().items():
        number = sums[house]
        if number.sign > 0:
            told.append((house, START, 0))
        if owed.sign > 0 and number.is_below(owed):
            told.append((START, house, 0))
        if number.sign < 0:
            told.append((END, house, 0))
        if owed.sign < 0 and owed.is_below(number):
            told.append((house, END, 0))
    return told


def potentials(clearing, payments):
    """Potentials of cheapest payments, None if they are not cheapest."""
    check_payments(clearing, payments)
    if not is_cheapest(clearing, payments):
        return None
    limits = _limits(clearing, payments)
    places = {place: 0 for place in clearing.houses() + [START, END]}
    # Each way through the places has no more parts than there are places, so all are settled behind so many times.
    for _ in range(len(places)):
        for one, other, most in limits:
            places[other] = min(places[other], places[one] + most)
    return ({house: Ratio(places[house]) for house in clearing.houses()}, Ratio(places[START]), Ratio(places[END]))


def are_potentials(clearing, payments, value):
    """Whether any value is potentials of the payments."""
    check_payments(clearing, payments)
    if not is_triple(value) or not are_of_just(clearing.houses(), value[0]):
        return False
    if not is_number(value[1]) or not is_number(value[2]):
        return False
    places = {house: ratio_of(value[0][house]) for house in clearing.houses()}
    places[START] = ratio_of(value[1])
    places[END] = ratio_of(value[2])
    return all([places[other].is_at_most(places[one] + most) for one, other, most in _limits(clearing, payments)])


def better(clearing, payments):
    """Payments with a greater volume, or greatest ones that cost less; None if these are cheapest."""
    check_payments(clearing, payments)
    if is_cheapest(clearing, payments):
        return None
    return first(clearing)


def spans(clearing):
    """The list of the tuples of the least and the greatest payment of each line in cheapest payments."""
    solver = greatest_solver(clearing, True)
    return [span_of(solver, place) for place in range(len(clearing))]


def line_more(clearing, line):
    """By how much a line more makes the greatest volume greater, and the least cost there."""
    more = clearing + line
    return (greatest_volume(more) - greatest_volume(clearing), least_cost(more))
