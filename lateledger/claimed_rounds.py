"""Claims of rounds: how much is gained at most."""

from lateledger.fills import first_fills, gain_of_fills, greatest_gain
from lateledger.orders import Round
from lateledger.ratios import is_number, ratio_of
from lateledger.rounds import is_supported, told_prices

ROUND_WORDS = ("gain",)


class RoundClaim:
    """A claim that the greatest gain of a round is a number. It never changes."""

    def __init__(self, about):
        self._about = about

    def fits(self):
        """Whether the parts are such as the word is about; only then the others are asked."""
        return len(self._about) == 2 and isinstance(self._about[0], Round) and is_number(self._about[1])

    def holds(self):
        """Whether it is true."""
        return greatest_gain(self._about[0]) == ratio_of(self._about[1])

    def paper(self):
        """A paper, where it is true."""
        return (first_fills(self._about[0]), told_prices(self._about[0]))

    def judges(self, paper):
        """Whether any value is a paper of it."""
        deals, number = self._about
        return is_supported(deals, paper) and gain_of_fills(deals, paper[0]) == ratio_of(number)
