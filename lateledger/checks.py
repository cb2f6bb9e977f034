"""What a run may be made of: its houses, goods and days, and how many facts of each word."""

from lateledger.errors import InvalidGoods, InvalidHouses, LedgerError, LimitError, StateError, TooMany
from lateledger.facts import counting, is_fact, told_fact
from lateledger.faults import InvalidDays, InvalidFacts, KnownId
from lateledger.words import is_good, is_integer, is_list

MOST_HOUSES = 8
MOST_GOODS = 4
MOST_DAYS = 12
MOST_FACTS = 100
# How many facts of one day may count.
MOST_OF_A_DAY = (("order", 12), ("future", 8), ("quote", 8))
# Of how many unlike (one, other) facts of all days may count.
MOST_PAIRS = (("line", 24), ("move", 24))


def _first_wrong(names, barred):
    """The position of the first value that is no name of a house or good, is barred, or stands ahead; else None."""
    ahead = {name: True for name in barred}
    for position, name in enumerate(names):
        # Houses are called like goods are: neither is called as coin, hall or outside.
        if not is_good(name) or name in ahead:
            return position
        ahead[name] = True
    return None


def check_parts(houses, goods, days):
    """InvalidHouses, InvalidGoods, InvalidDays unless these are houses, goods and days, of whatever number."""
    if not is_list(houses) or len(houses) == 0:
        raise InvalidHouses(None)
    wrong = _first_wrong(houses, [])
    if wrong is not None:
        raise InvalidHouses(wrong)
    if not is_list(goods) or len(goods) == 0:
        raise InvalidGoods(None)
    wrong = _first_wrong(goods, houses)
    if wrong is not None:
        raise InvalidGoods(wrong)
    if not is_integer(days) or days < 1:
        raise InvalidDays(days)


def check_many_parts(houses, goods, days):
    """TooMany if there are more houses, goods or days than are let."""
    if len(houses) > MOST_HOUSES:
        raise TooMany("houses", MOST_HOUSES)
    if len(goods) > MOST_GOODS:
        raise TooMany("goods", MOST_GOODS)
    if days > MOST_DAYS:
        raise TooMany("days", MOST_DAYS)


def facts_by_id(facts, houses, goods, days):
    """The dict from ids to facts as they are told: InvalidFacts, KnownId unless these are facts that go together."""
    if not is_list(facts):
        raise InvalidFacts(None)
    for position, fact in enumerate(facts):
        if not is_fact(fact, houses, goods, days):
            raise InvalidFacts(position)
    told = {}
    for fact in [told_fact(one) for one in facts]:
        if told.get(fact[0], fact) != fact:
            raise KnownId(fact[0])
        told[fact[0]] = fact
    return told


def check_many_facts(facts):
    """TooMany if there are more facts, a list with unlike ids, or more of them count together, than are let."""
    if len(facts) > MOST_FACTS:
        raise TooMany("facts", MOST_FACTS)
    known = counting(facts)
    for word, most in MOST_OF_A_DAY:
        days = [fact[1] for fact in known if fact[2] == word]
        if any([days.count(day) > most for day in days]):
            raise TooMany(word + "s", most)
    for word, most in MOST_PAIRS:
        if len(set([fact[3:5] for fact in known if fact[2] == word])) > most:
            raise TooMany(word + "s", most)


def can_be_run(houses, goods, days, facts):
    """Whether any values are houses, goods, days and facts of a run."""
    try:
        check_parts(houses, goods, days)
        told = facts_by_id(facts, houses, goods, days)
        check_many_parts(houses, goods, days)
        check_many_facts(list(told.values()))
    except (LedgerError, StateError, LimitError):
        return False
    return True
