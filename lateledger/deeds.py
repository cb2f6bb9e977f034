"""Deeds of a hall: which agree in whatever sequence they come, and halls that show that others do not."""

from lateledger.closing import Hall
from lateledger.errors import TooMany
from lateledger.facts import CLOSE, TELL, is_day, is_deed_of, is_fact, is_striking, told_fact
from lateledger.faults import InvalidDay, InvalidDeed, InvalidFact, InvalidHall, KnownId
from lateledger.words import is_list

MOST_DEEDS = 24

# What becomes of a deed: it is done, idle, or refused for one of two reasons.
DONE = "done"
IDLE = "idle"
KNOWN = "known"
MANY = "many"


def check_hall(hall):
    """InvalidHall unless the value is a Hall."""
    if not isinstance(hall, Hall):
        raise InvalidHall(hall)


def is_deed_for(hall, value):
    """Whether any value is a deed of a Hall."""
    return is_deed_of(value, hall.houses(), hall.goods(), hall.days)


def is_deed(hall, value):
    """Whether any value is a deed of the hall."""
    check_hall(hall)
    return is_deed_for(hall, value)


def try_deed(hall, deed):
    """Do a deed unless it is refused, which changes the hall; told is what becomes of it."""
    many, closed = len(hall.run), hall.closed
    try:
        if deed[0] == TELL:
            hall.tell(deed[1])
        else:
            hall.close(deed[1])
    except KnownId:
        return KNOWN
    except TooMany:
        return MANY
    return IDLE if len(hall.run) == many and hall.closed == closed else DONE


def behind(hall, deeds):
    """A new Hall that has done some deeds more, but for those that are refused."""
    told = hall.copy()
    for deed in deeds:
        try_deed(told, deed)
    return told


def reaches(hall, fact, day):
    """Whether a fact reaches a day: a striking each one, another fact its own one and those behind it."""
    check_hall(hall)
    if not is_fact(fact, hall.houses(), hall.goods(), hall.days):
        raise InvalidFact(fact)
    if not is_day(day, hall.days):
        raise InvalidDay(day)
    return does_reach(fact, day)


def does_reach(fact, day):
    """Whether what is a fact reaches what is a day."""
    return is_striking(fact) or fact[1] <= day


def _check_deeds(hall, one, other):
    check_hall(hall)
    for deed in (one, other):
        if not is_deed_for(hall, deed):
            raise InvalidDeed(deed)


def are_agreed(one, other):
    """Whether what are deeds of one hall agree."""
    if one[0] == CLOSE and other[0] == CLOSE:
        return True
    if one[0] == TELL and other[0] == TELL:
        return one[1][0] != other[1][0] or told_fact(one[1]) == told_fact(other[1])
    fact, day = (one[1], other[1]) if one[0] == TELL else (other[1], one[1])
    return not does_reach(fact, day)


def do_agree(hall, one, other):
    """Whether two deeds agree: from every such hall both sequences of them end alike."""
    _check_deeds(hall, one, other)
    return are_agreed(one, other)


def parting(hall, one, other):
    """A list of deeds behind which both sequences of two deeds end in unlike halls; None if they agree."""
    _check_deeds(hall, one, other)
    if are_agreed(one, other):
        return None
    if one[0] == TELL and other[0] == TELL:
        # The first one is told, and the other one is refused, so nothing need be there ahead.
        return []
    fact = one[1] if one[0] == TELL else other[1]
    return [(TELL, told) for told in _facts_that_show(fact, hall.houses()[0], hall.goods()[0])]


def _facts_that_show(fact, house, good):
    """Facts beside which a fact changes what is told of its day: each one of its day, with an id of its own."""
    if is_striking(fact):
        return [(fact[2], 1, "transfer", house, good, 1)]
    ids = [name for name in ("a", "b", "c") if name != fact[0]]
    if fact[2] == "move":
        return _holdings_that_show(fact, house, ids)
    if fact[2] == "future":
        return _quote_that_shows(fact, ids)
    if fact[2] == "quote":
        return _futures_that_show(fact, ids)
    # What is told of a transfer, an order or a line is told by itself.
    return []


def _holdings_that_show(fact, house, ids):
    """Holdings that lose without end unless the condition is kept, and by it just its most."""
    sides = [(good, amount) for good, amount in ((fact[3], -1), (fact[4], 1)) if good is not None]
    return [(key, fact[1], "transfer", house, good, amount) for key, (good, amount) in zip(ids, sides)]


def _quote_that_shows(fact, ids):
    """A quote of a good for nothing that the future makes a sure gain; without a future all quotes are fair."""
    good, number = _greatest(fact[4])
    prices = (None, 0) if number > 0 else (0, None)
    return [(ids[0], fact[1], "quote", {good: 1}, *prices)]


def _futures_that_show(fact, ids):
    """A future, and if it takes one a quote of a good, that are fair without the quote that is the fact."""
    _, day, _, bundle, bid, ask = fact
    good, number = _greatest(bundle)
    # In the only future one of the good is worth 1 or -1, whichever makes the bundle too cheap, or its bid too high.
    is_ask = bid is None or (ask is not None and ask <= -bid)
    bound = ask if is_ask else -bid
    worth = 1 if (number > 0) == is_ask else -1
    told = [(ids[0], day, "future", "any", {good: worth})]
    if bound > 0:
        told.append((ids[1], day, "quote", {good: worth}, bound // abs(number) + 1, None))
    return told


def _greatest(bundle):
    """The good of which the number is the greatest but for its sign, and this number."""
    good = sorted([(abs(number), good) for good, number in bundle.items()])[-1][1]
    return good, bundle[good]


def is_parting(hall, one, other, value):
    """Whether any value is a parting of two deeds."""
    _check_deeds(hall, one, other)
    if not is_list(value) or len(value) > MOST_DEEDS or not all([is_deed_for(hall, deed) for deed in value]):
        return False
    start = Hall(hall.houses(), hall.goods(), hall.days)
    if any([try_deed(start, deed) in (KNOWN, MANY) for deed in value]):
        return False
    left, right = start.copy(), start.copy()
    told = [try_deed(left, one), try_deed(left, other), try_deed(right, other), try_deed(right, one)]
    return MANY not in told and left != right


def do_part_at(hall, one, other):
    """Whether both sequences of two deeds, from this very hall on, end in unlike halls."""
    _check_deeds(hall, one, other)
    return behind(hall, [one, other]) != behind(hall, [other, one])
