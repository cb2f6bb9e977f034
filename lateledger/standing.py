"""How a hall stands: its run, and what was told of the days that are closed."""

from lateledger.journals import lines_of
from lateledger.ratios import Ratio
from lateledger.steps import STEPS

# The parts of what is told of a day, a tuple of these.
CORRECTIONS = 0
MAKES = 1
ENTRIES = 2
BALANCES = 3


class Standing:
    """A run of which some days are closed. It never changes."""

    def __init__(self, run, shut=()):
        """Take a Run, and for each closed day the tuple of what was told of it when it was closed."""
        self._run = run
        self._shut = list(shut)

    @property
    def run(self):
        """The Run."""
        return self._run

    @property
    def closed(self):
        """The last closed day, 0 without one."""
        return len(self._shut)

    def with_run(self, run):
        """The Standing with the same closed days and another run."""
        return Standing(run, self._shut)

    def shut_to(self, day):
        """The Standing with all days up to this one closed."""
        return Standing(self._run, self._shut + [self.told_of(one) for one in range(self.closed + 1, day + 1)])

    def told_of(self, day):
        """What is told of a day: entry of corrections, what its steps make, entries, balances; not to be changed."""
        if day <= len(self._shut):
            return self._shut[day - 1]
        corrections = self.corrections() if day == len(self._shut) + 1 else []
        makes = [self._run.makes(day, word) for word in STEPS]
        return (corrections, makes, self._run.entries(day), self._run.balances(day))

    def corrections(self):
        """The entry of corrections as it stands: the run's balances behind the last closed day less the told ones."""
        if len(self._shut) == 0:
            return []
        now, told = self._run.balances(len(self._shut)), self._shut[-1][BALANCES]
        left = {place: now.get(place, Ratio(0)) - told.get(place, 0) for place in [*now, *told]}
        return lines_of(left)

    def __eq__(self, other):
        return isinstance(other, Standing) and self._run == other._run and self._shut == other._shut
