"""[11] and the part "lateledger/ratios.py": Ratio."""

import unittest
from fractions import Fraction
from math import gcd
from random import Random

from lateledger.errors import DividedByZero, InvalidNumber
from lateledger.ratios import Ratio
from tests.support import GREAT, Checks, EqualToAll, NotCompared, fraction, values_of_every_kind

NUMBERS = [0, 1, -1, 2, -3, 7, GREAT, -GREAT, Ratio(0), Ratio(1), Ratio(-1), Ratio(1, 2), Ratio(-2, 3), Ratio(7, 5),
           Ratio(GREAT, GREAT - 1), Ratio(1 - GREAT, GREAT), Ratio(1, GREAT)]


def no_numbers():
    return [value for value in values_of_every_kind()
            if not isinstance(value, (int, Ratio)) or isinstance(value, bool)]


def no_integers():
    return [value for value in values_of_every_kind() if not isinstance(value, int) or isinstance(value, bool)]


class RatioTest(Checks, unittest.TestCase):
    def assert_is(self, ratio, wanted):
        """That it is a Ratio in lowest terms of the worth of a Fraction."""
        self.assertIs(ratio.__class__, Ratio)
        self.assertEqual((ratio.top, ratio.bottom), (wanted.numerator, wanted.denominator))

    def test_lowest_terms_and_signs(self):
        for top, bottom, told in ((6, 4, (3, 2)), (-6, 4, (-3, 2)), (6, -4, (-3, 2)), (-6, -4, (3, 2)), (0, -5, (0, 1)),
                                  (0, 7, (0, 1)), (5, 5, (1, 1)), (-5, 5, (-1, 1)), (8, -1, (-8, 1)), (3, 9, (1, 3))):
            ratio = Ratio(top, bottom)
            self.assertEqual((ratio.top, ratio.bottom), told)
            self.assertIs(ratio.top.__class__, int)
            self.assertIs(ratio.bottom.__class__, int)

    def test_bottom_left_out(self):
        for top in (0, 5, -5, GREAT):
            self.assert_is(Ratio(top), Fraction(top))

    def test_great_numbers(self):
        source = Random(1)
        for _ in range(100):
            top, bottom, factor = (source.randint(1, 10 ** 15) for _ in range(3))
            self.assert_is(Ratio(top * factor, bottom * factor), Fraction(top, bottom))
        self.assert_is(Ratio(GREAT, GREAT - 2), Fraction(GREAT, GREAT - 2))
        self.assertEqual(gcd(Ratio(GREAT, 3 ** 40).top, Ratio(GREAT, 3 ** 40).bottom), 1)

    def test_by_position_and_by_name(self):
        self.assertEqual(Ratio(top=3, bottom=6), Ratio(1, 2))
        self.assertEqual(Ratio(bottom=6, top=3), Ratio(1, 2))
        self.assertEqual(Ratio(top=3), Ratio(3, 1))
        half = Ratio(1, 2)
        self.assertEqual(half.over(other=2), Ratio(1, 4))
        self.assertEqual((half.is_below(other=1), half.is_at_most(other=0)), (True, False))
        self.assertEqual(Ratio.total(numbers=[1, half]), Ratio(3, 2))

    def test_no_integers(self):
        for value in no_integers():
            self.assert_keeps(InvalidNumber, value, Ratio, value)
            self.assert_keeps(InvalidNumber, value, Ratio, value, 2)
            self.assert_keeps(InvalidNumber, value, Ratio, 2, value)

    def test_first_parameter_decides(self):
        self.assert_keeps(InvalidNumber, True, Ratio, True, False)
        self.assert_keeps(InvalidNumber, False, Ratio, False, 0)
        self.assert_keeps(InvalidNumber, None, Ratio, 1, None)
        self.assert_keeps(InvalidNumber, "x", Ratio, "x", 0)
        self.assert_keeps(InvalidNumber, 0, Ratio, 1, 0)
        self.assert_keeps(InvalidNumber, 0, Ratio, 0, 0)

    def test_sign_and_is_whole(self):
        for ratio, sign, whole in ((Ratio(0), 0, True), (Ratio(3), 1, True), (Ratio(-3), -1, True),
                                   (Ratio(1, 3), 1, False), (Ratio(-1, 3), -1, False), (Ratio(4, -2), -1, True)):
            self.assert_same(ratio.sign, sign)
            self.assert_bool(ratio.is_whole, whole)

    def test_properties_are_not_assigned(self):
        half = Ratio(1, 2)
        for name in ("top", "bottom", "sign", "is_whole"):
            with self.assertRaises(AttributeError):
                setattr(half, name, 3)
        self.assertEqual(half, Ratio(1, 2))

    def test_plus_minus_times(self):
        for one in NUMBERS:
            for other in NUMBERS:
                if isinstance(one, int) and isinstance(other, int):
                    continue
                self.assert_is(one + other, fraction(one) + fraction(other))
                self.assert_is(one - other, fraction(one) - fraction(other))
                self.assert_is(one * other, fraction(one) * fraction(other))

    def test_minus_in_front_and_size(self):
        for one in NUMBERS:
            if isinstance(one, Ratio):
                self.assert_is(-one, -fraction(one))
                self.assert_is(one.size(), abs(fraction(one)))

    def test_wrong_on_the_right(self):
        half = Ratio(1, 2)
        for value in no_numbers():
            self.assert_keeps(InvalidNumber, value, lambda: half + value)
            self.assert_keeps(InvalidNumber, value, lambda: half - value)
            self.assert_keeps(InvalidNumber, value, lambda: half * value)

    def test_truth_values_on_the_left(self):
        half = Ratio(1, 2)
        for value in (True, False, None, "a"):
            for call in (lambda: value + half, lambda: value - half, lambda: value * half):
                self.assert_keeps(InvalidNumber, value, call)

    def test_over(self):
        for one in NUMBERS:
            for other in NUMBERS:
                if isinstance(one, int):
                    continue
                if fraction(other) == 0:
                    self.assert_raises(DividedByZero, {}, one.over, other)
                else:
                    self.assert_is(one.over(other), fraction(one) / fraction(other))
        for value in no_numbers():
            self.assert_keeps(InvalidNumber, value, Ratio(1, 2).over, value)
            self.assert_keeps(InvalidNumber, value, Ratio(0).over, value)

    def test_is_below_and_is_at_most(self):
        for one in NUMBERS:
            for other in NUMBERS:
                if isinstance(one, Ratio):
                    self.assert_bool(one.is_below(other), fraction(one) < fraction(other))
                    self.assert_bool(one.is_at_most(other), fraction(one) <= fraction(other))
        for value in no_numbers():
            self.assert_keeps(InvalidNumber, value, Ratio(1, 2).is_below, value)
            self.assert_keeps(InvalidNumber, value, Ratio(1, 2).is_at_most, value)

    def test_equal_to_ratios_alone(self):
        self.assertTrue(Ratio(2, 4) == Ratio(1, 2))
        self.assertFalse(Ratio(2, 4) != Ratio(1, 2))
        self.assertFalse(Ratio(1, 2) == Ratio(1, 3))
        self.assertFalse(Ratio(2, 3) == Ratio(1, 3))
        self.assertFalse(Ratio(1, 2) == Ratio(-1, 2))
        for value in values_of_every_kind() + [Fraction(1), Fraction(1, 2)]:
            if not isinstance(value, Ratio):
                for ratio in (Ratio(1), Ratio(0), Ratio(7), Ratio(1, 2)):
                    self.assertIs(ratio == value, False)
                    self.assertIs(ratio != value, True)
                    if not isinstance(value, (EqualToAll, NotCompared)):
                        self.assertIs(value == ratio, False)

    def test_total(self):
        self.assert_is(Ratio.total([]), Fraction(0))
        self.assert_is(Ratio.total(()), Fraction(0))
        self.assert_is(Ratio.total([3]), Fraction(3))
        self.assert_is(Ratio.total(NUMBERS), sum((fraction(one) for one in NUMBERS), Fraction(0)))
        self.assert_is(Ratio.total(tuple(NUMBERS[3:])), sum((fraction(one) for one in NUMBERS[3:]), Fraction(0)))
        self.assert_is(Ratio.total([Ratio(1, 6), Ratio(1, 3), Ratio(1, 2), -1]), Fraction(0))
        self.assert_is(Ratio(5).total([1, 1]), Fraction(2))

    def test_total_with_a_wrong_element(self):
        for value in no_numbers():
            self.assert_keeps(InvalidNumber, value, Ratio.total, [value])
            self.assert_keeps(InvalidNumber, value, Ratio.total, (1, Ratio(1, 2), value))
            self.assert_keeps(InvalidNumber, value, Ratio.total, [1, value, "x", None])

    def test_total_of_no_list(self):
        for value in (None, 1, "12", {1: 2}, Ratio(1)):
            self.assert_keeps(InvalidNumber, value, Ratio.total, value)

    def test_total_changes_nothing(self):
        passed = [1, Ratio(1, 2), 3]
        Ratio.total(passed)
        self.assert_same(passed, [1, Ratio(1, 2), 3])

    def test_str_and_repr(self):
        for ratio, text, shown in ((Ratio(3, 2), "3/2", "Ratio(3, 2)"), (Ratio(-6, 4), "-3/2", "Ratio(-3, 2)"),
                                   (Ratio(4), "4", "Ratio(4, 1)"), (Ratio(0, 9), "0", "Ratio(0, 1)"),
                                   (Ratio(-8, 2), "-4", "Ratio(-4, 1)"), (Ratio(1, -GREAT), f"-1/{GREAT}", None)):
            self.assertEqual(str(ratio), text)
            self.assertEqual(repr(ratio), shown or f"Ratio(-1, {GREAT})")

    def test_operators_leave_their_sides(self):
        one, other = Ratio(1, 2), Ratio(2, 3)
        for _ in (one + other, one - other, one * other, -one, one.over(other), one.size(), 3 - one, 3 + one, 3 * one):
            self.assertEqual((one.top, one.bottom, other.top, other.bottom), (1, 2, 2, 3))

    def test_exact_sums(self):
        source = Random(2)
        ratio, wanted = Ratio(0), Fraction(0)
        for _ in range(60):
            top, bottom = source.randint(-GREAT, GREAT), source.choice([-1, 1]) * source.randint(1, 10 ** 12)
            ratio, wanted = ratio * Ratio(1, 3) - Ratio(top, bottom), wanted / 3 - Fraction(top, bottom)
            self.assert_is(ratio, wanted)


if __name__ == "__main__":
    unittest.main()
