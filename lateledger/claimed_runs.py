"""Claims of runs: whether two lists of facts come to the same."""

from lateledger.checks import can_be_run
from lateledger.days import Run
from lateledger.facts import is_day
from lateledger.ratios import Ratio, is_number, ratio_of
from lateledger.steps import STEPS
from lateledger.words import is_among, is_list, is_pair

RUN_WORDS = ("alike", "unlike")


def is_same(told, value):
    """Whether any value is the same as what a step has made, NUMBERS by their worth."""
    if isinstance(told, Ratio):
        return is_number(value) and ratio_of(value) == told
    if isinstance(told, bool):
        return isinstance(value, bool) and value == told
    if isinstance(told, str):
        return isinstance(value, str) and value == told
    if isinstance(told, tuple):
        return isinstance(value, tuple) and len(value) == len(told) and all(
            [is_same(part, other) for part, other in zip(told, value)])
    if not isinstance(value, dict) or len(value) != len(told) or not all([_is_key(key) for key in value]):
        return False
    return all([key in value and is_same(part, value[key]) for key, part in told.items()])


def _is_key(value):
    """Whether any value may be a key of what steps make: a string, or a tuple of strings."""
    if isinstance(value, tuple):
        return all([isinstance(part, str) for part in value])
    return isinstance(value, str)


def _all_made(run):
    """The list of what all steps of a run make."""
    return [run.makes(day, word) for day in range(1, run.days + 1) for word in STEPS]


class RunClaim:
    """A claim of one of these words. It never changes."""

    def __init__(self, word, about):
        self._word = word
        self._about = about

    def fits(self):
        """Whether the parts are such as the word is about; only then the others are asked."""
        if len(self._about) != 5:
            return False
        houses, goods, days, facts, others = self._about
        return can_be_run(houses, goods, days, facts) and can_be_run(houses, goods, days, others)

    def _runs(self):
        houses, goods, days, facts, others = self._about
        return (Run(houses, goods, days, facts), Run(houses, goods, days, others))

    def _steps_apart(self):
        """The list of the tuples (day, word) of the steps at which the runs make unlike values."""
        one, other = self._runs()
        return [(day, word) for day in range(1, one.days + 1) for word in STEPS
                if one.makes(day, word) != other.makes(day, word)]

    def holds(self):
        """Whether it is true."""
        return (len(self._steps_apart()) == 0) == (self._word == "alike")

    def paper(self):
        """A paper, where it is true."""
        if self._word == "unlike":
            return self._steps_apart()[0]
        return _all_made(self._runs()[0])

    def judges(self, paper):
        """Whether any value is a paper of it."""
        if self._word == "unlike":
            return self._is_step(paper) and (paper[0], paper[1]) in self._steps_apart()
        one, other = self._runs()
        told = _all_made(one)
        if not is_list(paper) or len(paper) != len(told) or _all_made(other) != told:
            return False
        return all([is_same(part, given) for part, given in zip(told, paper)])

    def _is_step(self, value):
        return is_pair(value) and is_day(value[0], self._about[2]) and is_among(STEPS, value[1])
