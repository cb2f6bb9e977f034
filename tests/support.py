"""What the tests share: values of every kind, and the sums of the document over Fractions."""

from fractions import Fraction
from math import lcm

from lateledger.accounts import Chart
from lateledger.futures import Futures
from lateledger.journals import Journal
from lateledger.lines import Clearing
from lateledger.moves import Moves
from lateledger.orders import Order, Round
from lateledger.ratios import Ratio
from lateledger.systems import System

GREAT = 10 ** 30 - 1


class EqualToAll:
    """Of no kind that is asked for, though it is equal to everything."""

    def __eq__(self, other):
        return True


class NotCompared:
    """Of no kind that is asked for; to compare it fails."""

    def __eq__(self, other):
        raise RuntimeError("not to be compared")


class KeyEqualToAll(EqualToAll):
    """Found in dicts and sets in the place of a word, though it is none."""

    def __init__(self, word):
        self.word = word

    def __hash__(self):
        return hash(self.word)


class KeyNotCompared(NotCompared):
    """Looked for in dicts and sets in the place of a word; to compare it fails."""

    def __init__(self, word):
        self.word = word

    def __hash__(self):
        return hash(self.word)


def looks_like(value, *others):
    """Whether a value is told as one of the others; for values that cannot be compared, or are equal to all."""
    return repr(value) in [repr(other) for other in others]


def strange_values(*words):
    """Values that are equal to all or cannot be compared, some of which have the hashes of these words."""
    return [EqualToAll(), NotCompared()] + [kind(word) for word in words for kind in (KeyEqualToAll, KeyNotCompared)]


def strange_keys(*words):
    """Values that stand in dicts where these words are looked for."""
    return strange_values(*words)[2:]


def values_of_every_kind():
    """New values of every kind but floats."""
    return [
        None, True, False, 0, 1, -1, 7, GREAT, "", "a", "tea", "coin", "hall", "outside", "a.b", "abcdefgh", "abcdefghi",
        "Tea", "te a", "equals", "at most", "1", b"", b"a", [], [1], [True], [None], [[1]], [(1, 2)], (), (1,), (1, 2),
        (0, 0, 0), ([], [], []), {}, {"a": 1}, {"tea": 0}, {1: 1}, {True: 1}, {("a", "coin"): 1}, set(), frozenset(["a"]),
        range(2), Ratio(0), Ratio(1), Ratio(1, 2), object(), int, len, System([(0, 1)]), Chart(["a"], ["coin"]),
        Journal(Chart(["a"], ["coin"])), Order("a", {}, 0, 0), Round({}), Clearing({"a": 0}), Moves(["x"]),
        Futures({"dry": {}}), LookupError("a"), slice(0, 1), *strange_values("a", "tea"), (EqualToAll(), 1), [NotCompared()],
    ]


def fraction(number):
    """A NUMBER as a Fraction."""
    return Fraction(number.top, number.bottom) if isinstance(number, Ratio) else Fraction(number)


def fractions(numbers):
    return [fraction(number) for number in numbers]


def total(numbers):
    """The sum of some Fractions, reduced once only."""
    numbers = list(numbers)
    bottom = lcm(*[number.denominator for number in numbers])
    return Fraction(sum(number.numerator * (bottom // number.denominator) for number in numbers), bottom)


def dot(numbers, others):
    return total(fraction(one) * fraction(other) for one, other in zip(numbers, others))


def sign_of(numbers):
    """1 if a tuple of NUMBERS is above nought, -1 if below nought, 0 otherwise."""
    for number in fractions(numbers):
        if number != 0:
            return 1 if number > 0 else -1
    return 0


def digits(number):
    """The digits of the greater part of a Ratio."""
    return max(len(str(abs(number.top))), len(str(number.bottom)))


def all_numbers(value):
    """All Ratios and integers inside a value."""
    if isinstance(value, (list, tuple)):
        return [number for part in value for number in all_numbers(part)]
    if isinstance(value, dict):
        return [number for part in value.values() for number in all_numbers(part)]
    return [value] if isinstance(value, (int, Ratio)) else []


def all_containers(value):
    """All lists and dicts inside a value, itself too."""
    inside = []
    if isinstance(value, (list, tuple)):
        inside = [one for part in value for one in all_containers(part)]
    if isinstance(value, dict):
        inside = [one for part in value.values() for one in all_containers(part)]
    return inside + ([value] if isinstance(value, (list, dict)) else [])


class Checks:
    """Checks that several tests make; it is mixed into a TestCase."""

    def assert_raises(self, kind, attributes, call, *args, **more):
        """That the call raises just this kind of error, with these attributes and no others."""
        try:
            told = call(*args, **more)
        except Exception as error:
            self.assertIs(error.__class__, kind, repr(error))
            self.assertEqual(sorted(vars(error)), sorted(attributes))
            for name, wanted in attributes.items():
                kept = getattr(error, name)
                self.assertTrue(kept is wanted or (kept.__class__ is wanted.__class__ and kept == wanted), (kept, wanted))
            return error
        self.fail(f"{kind.__name__} was not raised: {told!r}")

    def assert_keeps(self, kind, value, call, *args, **more):
        """That the call raises this kind of error, and it keeps this very value."""
        error = self.assert_raises(kind, {"value": value}, call, *args, **more)
        self.assertIs(error.value, value)

    def assert_same(self, told, wanted):
        """That two values are equal, with the same kinds throughout."""
        self.assertEqual(told, wanted)
        self.assertIs(told.__class__, wanted.__class__)
        if isinstance(told, (list, tuple)):
            for one, other in zip(told, wanted):
                self.assert_same(one, other)
        if isinstance(told, dict):
            self.assertEqual(list(told), list(wanted))
            for key in told:
                self.assert_same(told[key], wanted[key])

    def assert_all_new(self, call):
        """That no two lists or dicts in what two calls return are the same object, and both are equal."""
        one, other = call(), call()
        self.assert_same(one, other)
        found = all_containers(one) + all_containers(other)
        self.assertEqual(len({id(part) for part in found}), len(found))

    def assert_told_short(self, value):
        """That all numbers in it are Ratios of no more than 500 digits."""
        for number in all_numbers(value):
            self.assertIsInstance(number, Ratio)
            self.assertLessEqual(digits(number), 500)

    def assert_bool(self, told, wanted):
        self.assertIs(told, bool(wanted))
