"""Facts of a run and deeds of a hall: which values are some, which facts count, and which are in force."""

from lateledger.orders import told_bundle
from lateledger.words import is_among, is_bundle, is_count, is_integer, is_keyed_among, is_name, is_pair

STRIKE = "strike"
TELL = "tell"
CLOSE = "close"
COIN = "coin"
MOST_COST = 1000

# How many parts the facts of each word have.
LENGTHS = {"transfer": 6, "order": 7, "line": 7, "move": 6, "future": 5, "quote": 6}


def is_day(value, days):
    """Whether any value is one of so many days."""
    return is_integer(value) and 1 <= value <= days


def is_fact(value, houses, goods, days):
    """Whether any value is a fact of a run with these houses, goods and days."""
    if not isinstance(value, tuple) or len(value) < 3 or not is_name(value[0]):
        return False
    if len(value) == 3:
        return is_among((STRIKE,), value[1]) and is_name(value[2]) and value[2] != value[0]
    if not is_day(value[1], days) or not isinstance(value[2], str):
        return False
    if value[2] not in LENGTHS or len(value) != LENGTHS[value[2]]:
        return False
    return _are_parts(value[2], value[3:], houses, goods)


def _are_parts(word, parts, houses, goods):
    """Whether these are the parts behind the word of a fact."""
    if word == "transfer":
        return _is_transfer(parts, houses, goods)
    if word == "order":
        return _is_order(parts, houses, goods)
    if word == "line":
        return _is_line(parts, houses)
    if word == "move":
        return _is_move(parts, goods)
    if word == "future":
        return is_name(parts[0]) and _is_bundle_of(parts[1], goods)
    return _is_quote(parts, goods)


def _is_transfer(parts, houses, goods):
    house, unit, amount = parts
    return is_among(houses, house) and is_among([*goods, COIN], unit) and is_integer(amount) and amount != 0


def _is_order(parts, houses, goods):
    house, bundle, limit, most = parts
    if not is_among(houses, house) or not _is_bundle_of(bundle, goods):
        return False
    return is_integer(limit) and is_count(most) and most > 0


def _is_line(parts, houses):
    one, other, most, cost = parts
    if not is_among(houses, one) or not is_among(houses, other) or one == other:
        return False
    return is_count(most) and is_count(cost) and cost <= MOST_COST


def _is_move(parts, goods):
    one, other, most = parts
    if not all([good is None or is_among(goods, good) for good in (one, other)]) or one == other:
        return False
    return is_integer(most)


def _is_quote(parts, goods):
    bundle, bid, ask = parts
    if not _is_bundle_of(bundle, goods) or not all([price is None or is_integer(price) for price in (bid, ask)]):
        return False
    return bid is not None or ask is not None


def _is_bundle_of(value, goods):
    """Whether any value is a bundle of some of the goods, with a number that is not 0."""
    if not is_bundle(value) or not is_keyed_among(goods, value):
        return False
    return any([number != 0 for number in list(value.values())])


def is_deed_of(value, houses, goods, days):
    """Whether any value is a deed of a hall with these houses, goods and days."""
    if not is_pair(value) or not is_among((TELL, CLOSE), value[0]):
        return False
    if value[0] == TELL:
        return is_fact(value[1], houses, goods, days)
    return is_day(value[1], days)


def told_fact(fact):
    """A fact as it is told: its bundle or its worths new and sorted, without 0."""
    return tuple([told_bundle(part) if isinstance(part, dict) else part for part in fact])


def told_deed(deed):
    """A deed with its fact as it is told."""
    if deed[0] == TELL:
        return (TELL, told_fact(deed[1]))
    return (CLOSE, deed[1])


def is_striking(fact):
    """Whether a fact strikes another one."""
    return fact[1] == STRIKE


def counting(facts):
    """Of a list of facts with unlike ids those that count, as they are told, sorted by ids."""
    struck = [fact[2] for fact in facts if is_striking(fact)]
    told = {fact[0]: told_fact(fact) for fact in facts if not is_striking(fact) and fact[0] not in struck}
    return [told[key] for key in sorted(told)]


def in_force(facts, day):
    """Of a list of facts with unlike ids the lines and the moves in force on a day, both sorted."""
    return forced(counting(facts), day)


def forced(facts, day):
    """Of facts that count the lines and the moves in force on a day, both sorted."""
    lines, moves = {}, {}
    for _, _, fact in sorted([(fact[1], fact[0], fact) for fact in facts if fact[1] <= day]):
        if fact[2] == "line":
            lines[(fact[3], fact[4])] = fact[3:]
        if fact[2] == "move":
            moves[(fact[3] or "", fact[4] or "")] = fact[3:]
    return ([lines[pair] for pair in sorted(lines)], [moves[pair] for pair in sorted(moves)])


def parts_on(facts, day, word):
    """Of facts that count, sorted by ids, those of a day with a word: a dict from ids to the parts behind it."""
    return {fact[0]: fact[3:] for fact in facts if fact[1] == day and fact[2] == word}


def futures_on(facts, day):
    """Of facts that count, sorted by ids, the futures of a day: a dict from names, sorted, to worths."""
    told = {}
    for name, worths in list(parts_on(facts, day, "future").values()):
        # Of one name the one with the greatest id, which comes last, holds.
        told[name] = worths
    return {name: told[name] for name in sorted(told)}
