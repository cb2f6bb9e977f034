"""Equations of integers: each has a solution, or a paper that there is none."""

from lateledger.ratios import Ratio
from lateledger.tableaus import pivoted


class Elimination:
    """Rows of integers, as many of them as can be exchanged for columns. Behind that it does not change.

    It has as many PIVOTS as the rank of the rows. A row without a pivot is a sum of rows with one.
    """

    def __init__(self, rows, many):
        """Take the rows, each with so many numbers."""
        self._cells = [list(row) for row in rows]
        self._bottom = 1
        self._owners = {}
        for row in range(len(rows)):
            column = self._free_column(row, many)
            if column is not None:
                self._cells, self._bottom = pivoted(self._cells, self._bottom, row, column)
                self._owners[column] = row

    def _free_column(self, row, many):
        line = self._cells[row]
        for column in range(many):
            if line[column] != 0 and column not in self._owners:
                return column
        return None

    def pivots(self):
        """The dict from the columns with a pivot to their rows."""
        return {column: self._owners[column] for column in sorted(self._owners)}

    def determined(self):
        """The sorted list of the columns with a pivot that hang on no other column."""
        others = [column for column in range(len(self._cells[0]) if len(self._cells) > 0 else 0)
                  if column not in self._owners]
        return [column for column, row in sorted(self._owners.items())
                if all([self._cells[row][other] == 0 for other in others])]

    def determinant(self):
        """The size of the determinant of the rows and columns with pivots."""
        return self._bottom

    def contradiction(self, bounds):
        """The numbers, one for each row, by which all rows come to 0 and the bounds do not; None if they stand."""
        owners = list(self._owners.values())
        for row, bound in enumerate(bounds):
            if row not in owners and (bound * self._bottom - self._sum_for(row, bounds)).sign != 0:
                numbers = [0 for _ in bounds]
                numbers[row] = self._bottom
                for column, owner in self._owners.items():
                    numbers[owner] = -self._cells[row][column]
                return numbers
        return None

    def _sum_for(self, row, bounds):
        line = self._cells[row]
        return Ratio.total([bounds[owner] * line[column] for column, owner in self._owners.items()])

    def solution(self, bounds):
        """The dict from columns to the Ratios with which the rows with pivots come to the bounds."""
        return {column: self._sum_for(self._owners[column], bounds).over(self._bottom) for column in self.pivots()}


def rank(rows, many):
    """How many of the rows, each with so many integers, do not hang on others."""
    return len(Elimination(rows, many).pivots())
