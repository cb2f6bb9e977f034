"""Claims of moves: whether there are any, and what holdings lose at most."""

from lateledger.cover import are_holdings, cover, cover_paper, family, is_cover_paper, is_family, lost_by, outcome
from lateledger.moves import Moves, has_move, is_move, is_ring, ring, some_move
from lateledger.ratios import Ratio, is_number, ratio_of

# What the claims are about, in how many parts.
MOVE_WORDS = {"move": 1, "ring": 1, "cover": 3, "family": 2}


class MoveClaim:
    """A claim of one of these words. It never changes."""

    def __init__(self, word, about):
        self._word = word
        self._about = about

    def fits(self):
        """Whether the parts are such as the word is about; only then the others are asked."""
        if len(self._about) != MOVE_WORDS[self._word] or not isinstance(self._about[0], Moves):
            return False
        if len(self._about) > 1 and not are_holdings(self._about[0], self._about[1]):
            return False
        return len(self._about) < 3 or is_number(self._about[2])

    def holds(self):
        """Whether it is true."""
        moves = self._about[0]
        if self._word in ("move", "ring"):
            return has_move(moves) == (self._word == "move")
        if outcome(moves, self._about[1]) != self._word:
            return False
        return self._word == "family" or cover(moves, self._about[1]) == ratio_of(self._about[2])

    def paper(self):
        """A paper, where it is true."""
        moves = self._about[0]
        if self._word == "move":
            return {good: Ratio(number) for good, number in some_move(moves).items()}
        if self._word == "ring":
            return ring(moves)
        if self._word == "family":
            return family(moves, self._about[1])
        return cover_paper(moves, self._about[1])

    def judges(self, paper):
        """Whether any value is a paper of it."""
        moves = self._about[0]
        if self._word == "move":
            return is_move(moves, paper)
        if self._word == "ring":
            return is_ring(moves, paper)
        if self._word == "family":
            return is_family(moves, self._about[1], paper)
        if not is_cover_paper(moves, self._about[1], paper):
            return False
        return lost_by(self._about[1], paper[0]) == ratio_of(self._about[2])
