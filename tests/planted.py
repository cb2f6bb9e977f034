"""Systems of long Ratios with a short result that is known."""

from lateledger.ratios import Ratio
from lateledger.systems import System
from tests.support import GREAT


def great(source):
    return Ratio(source.randint(-GREAT, GREAT), source.randint(1, GREAT))


def small_values(source, many):
    values = [source.choice([0, 0, source.randint(-3, 3)]) for _ in range(many)]
    if source.random() < 0.3 or not any(values):
        values = [0] * (many - 1) + [10 ** source.randint(0, 20)]
    return values


def row_through(source, values):
    """Weights of thirty digits, unlike at each 0, and the bound to which small values bring them."""
    below = source.randint(1, 10 ** 28)
    weights = [Ratio(source.randint(-10 ** 26, 10 ** 26), below) if number else great(source) for number in values]
    return weights, Ratio.total([weight * number for weight, number in zip(weights, values)])


def ends_around(source, number):
    low = source.choice([None, number, number - 1, number - Ratio(source.randint(1, GREAT), source.randint(1, 10 ** 20))])
    high = source.choice([None, number, number + 1, number + Ratio(source.randint(1, GREAT), source.randint(1, 10 ** 20))])
    return (low, high)


def some_solved(source):
    """A system, and short values that solve it."""
    many = source.randint(5, 16)
    equal = source.randint(3, min(many - 1, 14))
    values = small_values(source, many)
    rows = [(*row_through(source, values), "equals") for _ in range(equal)]
    for _ in range(source.randint(0, 24 - equal)):
        weights, bound = row_through(source, values)
        rows.append((weights, bound + source.choice([0, 1, Ratio(1, 10 ** 20)]), "at most"))
    source.shuffle(rows)
    system = System([ends_around(source, number) for number in values], [(row[0], row[2], row[1]) for row in rows])
    return system, values


def some_best(source):
    """A system, aims, and short best values with a short support."""
    many, height = source.randint(4, 10), source.randint(1, 3)
    values = small_values(source, many)
    rows = [(*row_through(source, values), "at most") for _ in range(source.randint(many, 20))]
    rows = [(row[0], "at most", row[1] + source.choice([0, 0, 1])) for row in rows]
    support = [[0] * height for _ in rows]
    easy = source.sample(range(len(rows)), 3)
    for at in easy:
        weights = [source.randint(-5, 5) for _ in values]
        rows[at] = (weights, source.choice(["at most", "equals"]), sum(w * number for w, number in zip(weights, values)))
    for place in range(height):
        for at in easy:
            is_free = rows[at][1] == "equals" or any(support[at][:place])
            support[at][place] = source.randint(-3 if is_free else 0, 3)
    aims = [[sum(support[at][place] * rows[at][0][column] for at in easy) for column in range(many)]
            for place in range(height)]
    ends = [source.choice([(None, None), (number - 1, number + 2), (number, None)]) for number in values]
    return System(ends, rows), aims, (values, [tuple(parts) for parts in support])


def wide_ends(source):
    low, high = great(source), great(source)
    return (low, high) if low.is_at_most(high) else (high, low)


def some_barred(source):
    """A system, and a short bar of two or three of its rows."""
    many = source.randint(3, 10)
    kinds = [(None, None), (None, None), (0, None), (Ratio(-GREAT, 7), Ratio(GREAT, 11)), wide_ends(source)]
    ends = [source.choice(kinds) if source.random() < 0.7 else (None, None) for _ in range(many)]
    told = [([great(source) for _ in ends], source.choice(["equals", "at most"]), great(source))
            for _ in range(source.randint(many // 2, 14))]
    often = [source.randint(1, 3) for _ in range(source.choice([2, 2, 3]))]
    few = [([Ratio(source.randint(-10 ** 20, 10 ** 20), source.randint(1, 10 ** 8)) for _ in ends], "at most",
            Ratio(source.randint(-10 ** 20, 10 ** 20), 7)) for _ in often[1:]]
    last, lows, highs = [], [], []
    left = Ratio.total([row[2] * number for row, number in zip(few, often[1:])])
    for place, (low, high) in enumerate(ends):
        least, most = (0 if low is None else 4), (0 if high is None else 4)
        wanted = source.randint(-most, least)
        last.append((wanted - Ratio.total([row[0][place] * number for row, number in zip(few, often[1:])])).over(often[0]))
        lows.append(max(wanted, 0))
        highs.append(max(-wanted, 0))
        left = left + Ratio.total([high * -wanted if wanted < 0 else low * -wanted if wanted > 0 else 0])
    few = [(last, "at most", (-1 - left).over(often[0]))] + few
    rows = [(0, row) for row in told] + list(zip(often, few))
    source.shuffle(rows)
    return System(ends, [row for _, row in rows]), ([number for number, _ in rows], lows, highs)


def some_way(source):
    """A system, aims, and a short way."""
    many = source.randint(5, 16)
    direction = small_values(source, many)
    last = [place for place in range(many) if direction[place]][-1]
    equal = source.randint(3, min(many - 1, 14))
    rows = []
    for at in range(source.randint(equal, 24)):
        weights, total = row_through(source, direction)
        less = 0 if at < equal else source.choice([0, 1])
        weights[last] = weights[last] - (total + less).over(direction[last])
        rows.append((weights, "equals", 0) if at < equal else (weights, "at most", source.randint(0, 3)))
    ends = [(None if part < 0 else source.choice([None, -great(source).size()]),
             None if part > 0 else source.choice([None, great(source).size()])) for part in direction]
    aim = [great(source) for _ in range(many)]
    if Ratio.total([one * part for one, part in zip(aim, direction)]).sign <= 0:
        aim = direction
    return System(ends, rows), [[0] * many, aim], ([0] * many, direction)


def some_barred_by_all(source):
    """24 rows of small numbers, each times a long one of its own, and a bar that takes them all."""
    many = source.randint(6, 16)
    rows = [[source.randint(-9, 9) for _ in range(many + 1)] for _ in range(23)]
    often = [source.choice([1, 1, 2]) for _ in rows]
    last = [-sum(number * row[at] for number, row in zip(often, rows)) for at in range(many + 1)]
    rows, often = rows + [last[:-1] + [last[-1] - 1]], often + [1]
    scales = [Ratio(source.randint(10 ** 24, 10 ** 26), source.choice([1, source.randint(10 ** 20, 10 ** 26)])) for _ in rows]
    told = [([scale * weight for weight in row[:-1]], "at most", scale * row[-1]) for scale, row in zip(scales, rows)]
    multipliers = [Ratio(number).over(scale) for number, scale in zip(often, scales)]
    return System([(None, None)] * many, told), (multipliers, [0] * many, [0] * many)


def some_solved_by_parts(source):
    """Rows of small numbers, those of each unknown times a long one of its own, and short values that solve them."""
    many = source.randint(8, 16)
    scales = [source.randint(10 ** 24, 10 ** 26) for _ in range(many)]
    values = [source.randint(-5, 5) for _ in range(many)]
    rows = []
    for _ in range(source.randint(5, many - 3)):
        weights = [source.randint(-1000, 1000) for _ in range(many)]
        bound = sum(weight * number for weight, number in zip(weights, values))
        rows.append(([weight * scale for weight, scale in zip(weights, scales)], "equals", bound))
    ends = [source.choice([(None, None), (0, None) if number >= 0 else (None, 0)]) for number in values]
    return System(ends, rows), [Ratio(number, scale) for number, scale in zip(values, scales)]
