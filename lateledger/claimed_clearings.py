"""Claims of clearings: whether all is paid, and what it costs."""

from lateledger.flows import are_unlike_houses, bound, fewest_set, is_all_paid
from lateledger.lines import Clearing, cost_of, does_fit, volume_of
from lateledger.nets import are_potentials, first, least_cost, potentials
from lateledger.ratios import is_number, ratio_of
from lateledger.words import is_triple

# What the claims are about, in how many parts.
CLEARING_WORDS = {"paid": 1, "held": 1, "cost": 2}


class ClearingClaim:
    """A claim of one of these words. It never changes."""

    def __init__(self, word, about):
        self._word = word
        self._about = about

    def fits(self):
        """Whether the parts are such as the word is about; only then the others are asked."""
        if len(self._about) != CLEARING_WORDS[self._word] or not isinstance(self._about[0], Clearing):
            return False
        return self._word != "cost" or is_number(self._about[1])

    def holds(self):
        """Whether it is true."""
        if self._word == "cost":
            return least_cost(self._about[0]) == ratio_of(self._about[1])
        return is_all_paid(self._about[0]) == (self._word == "paid")

    def paper(self):
        """A paper, where it is true."""
        clearing = self._about[0]
        if self._word == "paid":
            return first(clearing)
        if self._word == "held":
            return fewest_set(clearing)
        payments = first(clearing)
        return (payments, fewest_set(clearing), potentials(clearing, payments))

    def judges(self, paper):
        """Whether any value is a paper of it."""
        clearing = self._about[0]
        if self._word == "paid":
            return does_fit(clearing, paper) and volume_of(clearing, paper) == clearing.all_owed()
        if self._word == "held":
            return are_unlike_houses(clearing, paper) and bound(clearing, paper).is_below(clearing.all_owed())
        return is_triple(paper) and self._do_cost(paper[0], paper[1], paper[2])

    def _do_cost(self, payments, some, places):
        """Whether payments cost the number, are greatest as the set shows, and cheapest as the potentials do."""
        clearing, number = self._about
        if not does_fit(clearing, payments) or cost_of(clearing, payments) != ratio_of(number):
            return False
        if not are_unlike_houses(clearing, some) or bound(clearing, some) != volume_of(clearing, payments):
            return False
        return are_potentials(clearing, payments, places)
