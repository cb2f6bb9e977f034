"""The payments of a clearing as the unknowns of a system with aims."""

from lateledger.ratios import Ratio, ratios_of
from lateledger.solving import Solver
from lateledger.systems import EQUALS


def greatest_solver(clearing, is_cheap):
    """A Solver that stands at greatest payments, at cheapest ones if these are wanted.

    Its unknowns are the payments, then what each house has paid, in the sequence of the lines and of the houses.
    """
    lines, owed = clearing.lines(), clearing.owed()
    ends = [(Ratio(0), Ratio(line[2])) for line in lines]
    rows = []
    for house, number in owed.items():
        ends.append((Ratio(0), number) if number.sign > 0 else (number, Ratio(0)))
        out = [1 if line[0] == house else -1 if line[1] == house else 0 for line in lines]
        rows.append((ratios_of(out + [-1 if other == house else 0 for other in owed]), EQUALS, Ratio(0)))
    volume = [0 for _ in lines] + [1 if number.sign > 0 else 0 for number in list(owed.values())]
    cost = [-line[3] for line in lines] + [0 for _ in owed]
    solver = Solver(ends, rows, [ratios_of(aim) for aim in ([volume, cost] if is_cheap else [volume])])
    # Payments of 0 always fit, and none go on without end.
    solver.bar()
    solver.way()
    return solver


def span_of(solver, place):
    """The tuple of the least and the greatest value of an unknown where the aims are as great as can be."""
    solver.way_behind([(place, -1)])
    least = solver.found()[place]
    solver.way_behind([(place, 1)])
    return (least, solver.found()[place])
