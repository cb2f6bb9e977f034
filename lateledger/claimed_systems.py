"""Claims of systems: that they are solved or barred, and what is best for aims, or goes on without end."""

from lateledger.best import are_aims, bar, best, is_bar, is_best, is_way, outcome, solution, way, worth
from lateledger.ratios import are_numbers, ratios_of
from lateledger.solving import worth_of
from lateledger.systems import System

# What the claims are about, in how many parts.
SYSTEM_WORDS = {"solved": 1, "barred": 1, "best": 3, "way": 2}


class SystemClaim:
    """A claim of one of these words. It never changes."""

    def __init__(self, word, about):
        self._word = word
        self._about = about

    def fits(self):
        """Whether the parts are such as the word is about; only then the others are asked."""
        if len(self._about) != SYSTEM_WORDS[self._word] or not isinstance(self._about[0], System):
            return False
        if len(self._about) > 1 and not are_aims(self._about[0], self._about[1]):
            return False
        return len(self._about) < 3 or self._is_worth(self._about[2])

    def _is_worth(self, value):
        return isinstance(value, tuple) and are_numbers(value, len(self._about[1]))

    def holds(self):
        """Whether it is true."""
        system = self._about[0]
        aims = self._about[1] if len(self._about) > 1 else [[0 for _ in range(len(system))]]
        found = outcome(system, aims)
        if self._word == "barred":
            return found == "bar"
        if self._word == "solved":
            return found != "bar"
        if self._word == "way":
            return found == "way"
        return found == "best" and list(worth(system, aims)) == ratios_of(self._about[2])

    def paper(self):
        """A paper, where it is true."""
        if self._word == "solved":
            return solution(self._about[0])
        if self._word == "barred":
            return bar(self._about[0])
        if self._word == "way":
            return way(self._about[0], self._about[1])
        return best(self._about[0], self._about[1])

    def judges(self, paper):
        """Whether any value is a paper of it."""
        system = self._about[0]
        if self._word == "solved":
            return system.does_solve(paper)
        if self._word == "barred":
            return is_bar(system, paper)
        if self._word == "way":
            return is_way(system, self._about[1], paper)
        if not is_best(system, self._about[1], paper):
            return False
        return list(worth_of(self._about[1], paper[0])) == ratios_of(self._about[2])
