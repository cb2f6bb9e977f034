"""Two halls that worked apart meet: their logs are woven, but for the fewest deeds that are in all quarrels."""

from lateledger.deeds import DONE, behind, check_hall, try_deed
from lateledger.errors import InvalidNumber, TooMany
from lateledger.facts import told_deed
from lateledger.pairing import first_cover
from lateledger.quarrels import check_log, check_logs, quarrels_of
from lateledger.words import is_count

MOST_WOVEN = 6


def ran(hall, log):
    """The Hall behind a log."""
    check_hall(hall)
    check_log(hall, log)
    return behind(hall, log)


def lean(hall, log):
    """The list of the deeds of a log that are done, neither refused nor idle, when it is run."""
    check_hall(hall)
    check_log(hall, log)
    return [told_deed(log[place]) for place in _places_done(hall, log)]


def _places_done(hall, log):
    """The rising list of the positions of the deeds that are done when a log is run."""
    ahead = hall.copy()
    return [place for place, deed in enumerate(log) if try_deed(ahead, deed) == DONE]


def weavings(many, more):
    """All weavings of two logs with so many deeds, sorted: lists of 0 for a deed of the one, 1 for one of the other."""
    for number in (many, more):
        if not is_count(number) or number > MOST_WOVEN:
            raise InvalidNumber(number)
    for sides in _woven(many, more):
        yield sides


def _woven(many, more):
    if many == 0 or more == 0:
        return [[0] * many + [1] * more]
    return [[0, *rest] for rest in _woven(many - 1, more)] + [[1, *rest] for rest in _woven(many, more - 1)]


def met(hall, one, other):
    """The tuple of the least cover of both logs made lean, its positions in the logs as passed, and the Hall behind."""
    check_logs(hall, one, other)
    logs = (one, other)
    places = [_places_done(hall, log) for log in logs]
    leans = [[log[place] for place in some] for log, some in zip(logs, places)]
    left_out = [(side, places[side][number]) for side, number in first_cover(quarrels_of(leans[0], leans[1]))]
    rest = [logs[side][place] for side in (0, 1) for place in places[side] if (side, place) not in left_out]
    return (left_out, behind(hall, rest))


def how_many_ends(hall, one, other):
    """How many unlike halls all weavings of two logs end in."""
    check_logs(hall, one, other)
    if max(len(one), len(other)) > MOST_WOVEN:
        raise TooMany("deeds", MOST_WOVEN)
    # Equal halls go on alike, so of those behind the same deeds one of each kind is enough.
    ends = {(0, 0): [hall]}
    for left in range(len(one) + 1):
        for right in range(len(other) + 1):
            if left > 0 or right > 0:
                found = [behind(ahead, [one[left - 1]]) for ahead in ends.get((left - 1, right), [])]
                found = found + [behind(ahead, [other[right - 1]]) for ahead in ends.get((left, right - 1), [])]
                ends[(left, right)] = _unlike(found)
    return len(ends[(len(one), len(other))])


def _unlike(halls):
    """The halls without those that are equal to one ahead of them."""
    told = []
    for hall in halls:
        if not any([hall == other for other in told]):
            told.append(hall)
    return told
