"""Claims of all kinds, each with a paper exactly if it is true."""

from lateledger.claimed_books import BOOK_WORDS, BookClaim
from lateledger.claimed_clearings import CLEARING_WORDS, ClearingClaim
from lateledger.claimed_moves import MOVE_WORDS, MoveClaim
from lateledger.claimed_quotes import QUOTE_WORDS, QuoteClaim
from lateledger.claimed_rounds import ROUND_WORDS, RoundClaim
from lateledger.claimed_runs import RUN_WORDS, RunClaim
from lateledger.claimed_systems import SYSTEM_WORDS, SystemClaim
from lateledger.faults import InvalidClaim


def _claim_with(word, about):
    """What may be the claim of a word about some parts, None if no claim has the word."""
    if word in SYSTEM_WORDS:
        return SystemClaim(word, about)
    if word in BOOK_WORDS:
        return BookClaim(word, about)
    if word in ROUND_WORDS:
        return RoundClaim(about)
    if word in CLEARING_WORDS:
        return ClearingClaim(word, about)
    if word in MOVE_WORDS:
        return MoveClaim(word, about)
    if word in QUOTE_WORDS:
        return QuoteClaim(word, about)
    return RunClaim(word, about) if word in RUN_WORDS else None


def _claim_in(value):
    """The claim that any value is, None if it is none."""
    if not isinstance(value, tuple) or len(value) == 0 or not isinstance(value[0], str):
        return None
    claim = _claim_with(value[0], value[1:])
    return claim if claim is not None and claim.fits() else None


def _checked(claim):
    found = _claim_in(claim)
    if found is None:
        raise InvalidClaim(claim)
    return found


def is_claim(value):
    """Whether any value is a claim."""
    return _claim_in(value) is not None


def is_true(claim):
    """Whether a claim is true."""
    return _checked(claim).holds()


def paper_of(claim):
    """A paper of a claim, None if it is not true."""
    found = _checked(claim)
    return found.paper() if found.holds() else None


def is_paper(claim, value):
    """Whether any value is a paper of a claim."""
    return _checked(claim).judges(value)
