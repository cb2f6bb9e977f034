"""The simplex method in integers: cells over one bottom, so that nothing is rounded or reduced on the way.

The variables of a tableau are the unknowns, then the sums of the rows, then the sums of the aims, counted through.
Each basic variable has a row of cells: it is the sum of the other variables, each times its cell, over the bottom.
The other variables have a column each, and stand at one of their ends, at 0 if they have none.
"""


def pivoted(cells, bottom, row, column):
    """The cells and the bottom when the variables of a row and of a column have changed places."""
    chosen = cells[row]
    pivot = chosen[column]
    # The bottom is kept above 0, so that the signs of cells are those of what they stand for.
    sign = 1 if pivot > 0 else -1
    fresh = []
    for line in cells:
        factor = line[column]
        if factor == 0:
            fresh.append([sign * cell * pivot // bottom for cell in line])
        else:
            changed = [sign * (cell * pivot - factor * other) // bottom for cell, other in zip(line, chosen)]
            changed[column] = sign * factor
            fresh.append(changed)
    fresh[row] = [-sign * cell for cell in chosen]
    fresh[row][column] = sign * bottom
    return fresh, sign * pivot


class Tableau:
    """Sums of unknowns within ends, all of them integers. It changes while it is solved."""

    def __init__(self, lines, ends):
        """Take the rows of weights, those of the aims behind them, and the ends of all variables."""
        many = len(ends) - len(lines)
        self._cells = [list(line) for line in lines]
        self._bottom = 1
        self._ends = list(ends)
        self._others = list(range(many))
        self._basic = list(range(many, len(ends)))
        self._places = [self._first_place(variable) for variable in range(many)]

    def _first_place(self, variable):
        low, high = self._ends[variable]
        if low is not None:
            return low
        if high is not None:
            return high
        return 0

    def common_bottom(self):
        """The number that all tops and all cells are over."""
        return self._bottom

    def tops(self):
        """The list of the values of all variables, times the bottom."""
        tops = [0 for _ in self._ends]
        for column, variable in enumerate(self._others):
            tops[variable] = self._places[column] * self._bottom
        for row, variable in enumerate(self._basic):
            tops[variable] = self._top_of_row(row)
        return tops

    def _top_of_row(self, row):
        return sum([cell * place for cell, place in zip(self._cells[row], self._places) if cell != 0])

    def numbers_of(self, variable):
        """The dict from the variables with a column to how often each stands in this one, times the bottom."""
        if variable in self._others:
            return {variable: self._bottom}
        line = self._cells[self._basic.index(variable)]
        return {other: line[column] for column, other in enumerate(self._others)}

    def settle(self):
        """Bring all variables within their ends: None, or the numbers of a bar, one for each variable."""
        while True:
            row, end = self._first_broken_row()
            if row is None:
                return None
            sign = 1 if self._top_of_row(row) < end * self._bottom else -1
            column = self._column_that_helps(row, sign)
            if column is None:
                return self._bar_of_row(row, sign)
            self._exchange(row, column, end)

    def _first_broken_row(self):
        # The least variable goes first, here and in the choice of columns (Bland's rule): so it comes to an end.
        found, broken_end = None, None
        for row, variable in enumerate(self._basic):
            if found is not None and variable > self._basic[found]:
                continue
            end = self._broken_end(row, variable)
            if end is not None:
                found, broken_end = row, end
        return found, broken_end

    def _broken_end(self, row, variable):
        low, high = self._ends[variable]
        if low is None and high is None:
            return None
        top = self._top_of_row(row)
        if low is not None and top < low * self._bottom:
            return low
        if high is not None and top > high * self._bottom:
            return high
        return None

    def _column_that_helps(self, row, sign):
        line = self._cells[row]
        found = None
        for column, variable in enumerate(self._others):
            if found is not None and variable > self._others[found]:
                continue
            if line[column] != 0 and self._can_move(column, sign * line[column]):
                found = column
        return found

    def _can_move(self, column, sign):
        low, high = self._ends[self._others[column]]
        if sign > 0:
            return high is None or self._places[column] < high
        return low is None or self._places[column] > low

    def _bar_of_row(self, row, sign):
        # No column can bring the row nearer to its end: the row itself, and the ends where its columns stand,
        # add up to less than nothing.
        numbers = [0 for _ in self._ends]
        numbers[self._basic[row]] = -sign * self._bottom
        for cell, variable in zip(self._cells[row], self._others):
            numbers[variable] = sign * cell
        return numbers

    def _exchange(self, row, column, place):
        """Let a row's variable stand at a place, and a column's one become basic."""
        self._cells, self._bottom = pivoted(self._cells, self._bottom, row, column)
        leaving = self._basic[row]
        self._basic[row] = self._others[column]
        self._others[column] = leaving
        self._places[column] = place

    def climb(self, aims):
        """Make the aims, tuples (variable, sign), in sequence as great as can be.

        None when they are; or the direction in which they grow without end, one number for each variable.
        """
        while True:
            column, sign = self._gaining_column(aims)
            if column is None:
                return None
            row, place = self._first_block(column, sign)
            if place is None:
                return self._direction(column, sign)
            if row is None:
                self._places[column] = place
            else:
                self._exchange(row, column, place)

    def _gaining_column(self, aims):
        lines = [(self.numbers_of(variable), wanted) for variable, wanted in aims]
        found, way = None, 0
        for column, variable in enumerate(self._others):
            if found is not None and variable > self._others[found]:
                continue
            sign = first_sign([numbers.get(variable, 0) * wanted for numbers, wanted in lines])
            if sign != 0 and self._can_move(column, sign):
                found, way = column, sign
        return found, way

    def _first_block(self, column, sign):
        """The row, None for the column itself, and the end that stop a move; no end if nothing does."""
        low, high = self._ends[self._others[column]]
        row, place, gap, rate, first = None, None, 0, 1, -1
        if low is not None and high is not None:
            place, gap = (high if sign > 0 else low), (high - low)
        for at, variable in enumerate(self._basic):
            pace = self._cells[at][column] * sign
            end = self._end_ahead(variable, pace)
            if end is None:
                continue
            space = abs(end * self._bottom - self._top_of_row(at))
            pace = abs(pace)
            sooner = space * rate - gap * pace
            if place is None or sooner < 0 or (sooner == 0 and variable < first):
                row, place, gap, rate, first = at, end, space, pace, variable
        return row, place

    def _end_ahead(self, variable, pace):
        if pace == 0:
            return None
        low, high = self._ends[variable]
        if pace > 0:
            return high
        return low

    def _direction(self, column, sign):
        numbers = [0 for _ in self._ends]
        numbers[self._others[column]] = sign * self._bottom
        for row, variable in enumerate(self._basic):
            numbers[variable] = sign * self._cells[row][column]
        return numbers


def first_sign(numbers):
    """The sign of the first of some integers that is not 0; 0 if there is none."""
    for number in numbers:
        if number != 0:
            return 1 if number > 0 else -1
    return 0
