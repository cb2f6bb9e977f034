"""Claims of quotes: whether they are fair, and where the fair prices of a bundle end."""

from lateledger.futures import Futures
from lateledger.quotes import are_fair, are_fair_weights, are_quotes, coin_of_deal, fair_weights
from lateledger.quotes import is_sure_gain, sure_gain
from lateledger.ratios import is_number, ratio_of
from lateledger.spans import cover_cost, end_paper, is_end_paper, is_way, way
from lateledger.words import is_bundle, is_pair

# What the claims are about, in how many parts.
QUOTE_WORDS = {"fair": 2, "sure": 2, "end": 4, "open": 3}


class QuoteClaim:
    """A claim of one of these words. It never changes."""

    def __init__(self, word, about):
        self._word = word
        self._about = about

    def fits(self):
        """Whether the parts are such as the word is about; only then the others are asked."""
        if len(self._about) != QUOTE_WORDS[self._word] or not isinstance(self._about[0], Futures):
            return False
        if not are_quotes(self._about[1]) or (len(self._about) > 2 and not is_bundle(self._about[2])):
            return False
        return len(self._about) < 4 or is_number(self._about[3])

    def holds(self):
        """Whether it is true."""
        futures, quotes = self._about[:2]
        if self._word == "sure":
            return not are_fair(futures, quotes)
        if not are_fair(futures, quotes) or self._word == "fair":
            return are_fair(futures, quotes)
        found = cover_cost(futures, quotes, self._about[2])
        if self._word == "open" or found is None:
            return found is None and self._word == "open"
        return found == ratio_of(self._about[3])

    def paper(self):
        """A paper, where it is true."""
        futures, quotes = self._about[:2]
        if self._word == "fair":
            return fair_weights(futures, quotes)
        if self._word == "sure":
            return sure_gain(futures, quotes)
        if self._word == "open":
            return (fair_weights(futures, quotes), way(futures, quotes, self._about[2]))
        return (fair_weights(futures, quotes), end_paper(futures, quotes, self._about[2]))

    def judges(self, paper):
        """Whether any value is a paper of it."""
        futures, quotes = self._about[:2]
        if self._word == "fair":
            return are_fair_weights(futures, quotes, paper)
        if self._word == "sure":
            return is_sure_gain(futures, quotes, paper)
        if not is_pair(paper) or not are_fair_weights(futures, quotes, paper[0]):
            return False
        if self._word == "open":
            return is_way(futures, quotes, self._about[2], paper[1])
        if not is_end_paper(futures, quotes, self._about[2], paper[1]):
            return False
        return -coin_of_deal(quotes, paper[1][0]) == ratio_of(self._about[3])
