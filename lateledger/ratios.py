"""Exact numbers: NUMBERS are INTEGERS or Ratios."""

from math import gcd, lcm

from lateledger.errors import DividedByZero, InvalidNumber
from lateledger.words import is_integer, is_list

# Numbers of so many bits have no more than 500 digits.
MOST_BITS = 1660


def is_number(value):
    """Whether any value is a NUMBER: an INTEGER or a Ratio."""
    return is_integer(value) or isinstance(value, Ratio)


def ratio_of(value):
    """The Ratio with the worth of a NUMBER."""
    if isinstance(value, Ratio):
        return value
    return Ratio(value)


def are_numbers(value, many):
    """Whether any value is a list of so many NUMBERS."""
    return is_list(value) and len(value) == many and all([is_number(part) for part in value])


def ratios_of(numbers):
    """The Ratios with the worths of some NUMBERS."""
    return [ratio_of(number) for number in numbers]


def shared_bottom(numbers):
    """The least number that times each of some Ratios is whole."""
    bottom = 1
    for number in numbers:
        bottom = lcm(bottom, number.bottom)
    return bottom


def whole_multiples(numbers):
    """The least list of integers that are the Ratios times one scale, and this scale."""
    scale = shared_bottom(numbers)
    return [number.top * (scale // number.bottom) for number in numbers], scale


def shared_factor(numbers):
    """What all tops of some Ratios share over what all their bottoms share; 1 for those that are all 0."""
    top, bottom = 0, 0
    for number in numbers:
        if number.sign != 0:
            top = gcd(top, number.top)
            bottom = gcd(bottom, number.bottom)
    return Ratio(1) if top == 0 else Ratio(top, bottom)


def are_short(numbers):
    """Whether all Ratios have tops and bottoms of no more than 500 digits."""
    return all([max(abs(number.top), number.bottom).bit_length() <= MOST_BITS for number in numbers])


def sum_of_products(numbers, others):
    """The sum of NUMBERS times as many others, each times the one at its place."""
    parts = [ratio_of(number) * other for number, other in zip(numbers, others)]
    return Ratio.total(parts)


class Ratio:
    """A fraction in lowest terms, its bottom at least 1."""

    def __init__(self, top, bottom=1):
        if not is_integer(top):
            raise InvalidNumber(top)
        if not is_integer(bottom) or bottom == 0:
            raise InvalidNumber(bottom)
        divisor = gcd(top, bottom)
        if bottom < 0:
            divisor = -divisor
        self._top = top // divisor
        self._bottom = bottom // divisor

    @property
    def top(self):
        """The number above the line, below 0 if the Ratio is."""
        return self._top

    @property
    def bottom(self):
        """The number below the line, at least 1."""
        return self._bottom

    @property
    def sign(self):
        """-1, 0 or 1, as the Ratio is below, at or above 0."""
        if self._top == 0:
            return 0
        if self._top < 0:
            return -1
        return 1

    @property
    def is_whole(self):
        """Whether the bottom is 1."""
        return self._bottom == 1

    @classmethod
    def total(cls, numbers):
        """The sum of a list of NUMBERS."""
        if not is_list(numbers):
            raise InvalidNumber(numbers)
        ratios = ratios_of(numbers)
        bottom = shared_bottom(ratios)
        return cls(sum([ratio.top * (bottom // ratio.bottom) for ratio in ratios]), bottom)

    def over(self, other):
        """The Ratio divided by a NUMBER."""
        divisor = ratio_of(other)
        if divisor.sign == 0:
            raise DividedByZero()
        return Ratio(self._top * divisor.bottom, self._bottom * divisor.top)

    def size(self):
        """The Ratio without its sign."""
        return Ratio(abs(self._top), self._bottom)

    def is_below(self, other):
        """Whether it is less than a NUMBER."""
        right = ratio_of(other)
        return self._top * right.bottom < right.top * self._bottom

    def is_at_most(self, other):
        """Whether it is not greater than a NUMBER."""
        right = ratio_of(other)
        return self._top * right.bottom <= right.top * self._bottom

    def __add__(self, other):
        right = ratio_of(other)
        return Ratio(self._top * right.bottom + right.top * self._bottom, self._bottom * right.bottom)

    def __radd__(self, other):
        return ratio_of(other) + self

    def __sub__(self, other):
        right = ratio_of(other)
        return Ratio(self._top * right.bottom - right.top * self._bottom, self._bottom * right.bottom)

    def __rsub__(self, other):
        return ratio_of(other) - self

    def __mul__(self, other):
        right = ratio_of(other)
        return Ratio(self._top * right.top, self._bottom * right.bottom)

    def __rmul__(self, other):
        return ratio_of(other) * self

    def __neg__(self):
        return Ratio(-self._top, self._bottom)

    def __eq__(self, other):
        return isinstance(other, Ratio) and self._top == other._top and self._bottom == other._bottom

    def __str__(self):
        if self._bottom == 1:
            return str(self._top)
        return f"{self._top}/{self._bottom}"

    def __repr__(self):
        return f"Ratio({self._top}, {self._bottom})"
