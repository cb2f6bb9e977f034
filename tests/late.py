"""Facts and deeds to try, and the steps of [74] and the halls of [76] and [77] by plain sums over Fractions."""

from fractions import Fraction
from itertools import product

from lateledger.cover import cover, outcome
from lateledger.fills import first_fills
from lateledger.futures import Futures
from lateledger.lines import Clearing
from lateledger.moves import Moves
from lateledger.nets import first
from lateledger.orders import Order, Round
from lateledger.quotes import are_fair
from lateledger.ratios import Ratio
from lateledger.rounds import told_prices
from tests.support import fraction

WORDS = ["in", "round", "trades", "clear", "pay", "cover", "call", "fair"]
HOUSES = ["ann", "ben", "cy", "dot"]
GOODS = ["corn", "oil", "tea"]
IDS = ["a", "b", "c", "d", "e", "f", "g", "h", "ab", "ba"]
KINDS = ["transfer", "order", "line", "move", "future", "quote", "strike"]


def ratio(number):
    return Ratio(number.numerator, number.denominator)


def some_bundle(source, goods, size=2):
    while True:
        bundle = {good: source.randint(-size, size) for good in source.sample(goods, source.randint(1, len(goods)))}
        if any(bundle.values()):
            return bundle


def some_fact(source, houses, goods, days, key, word=None):
    """A fact with this id; one of more words than are let falls back to a transfer."""
    word = word or source.choice(KINDS)
    if word == "line" and len(houses) < 2:
        word = "transfer"
    day = source.randint(1, days)
    if word == "strike":
        return (key, "strike", source.choice([one for one in IDS + ["z"] if one != key]))
    parts = {
        "transfer": lambda: (source.choice(houses), source.choice([*goods, "coin"]), source.choice([-3, -1, 1, 2, 5])),
        "order": lambda: (source.choice(houses), some_bundle(source, goods), source.randint(-6, 9), source.randint(1, 3)),
        "line": lambda: (*source.sample(houses, 2), source.randint(0, 6), source.choice([0, 1, 2, 1000])),
        "move": lambda: (*source.sample([None, *goods], 2), source.randint(-1, 4)),
        "future": lambda: (source.choice(["dry", "wet"]), some_bundle(source, goods, 4)),
        "quote": lambda: (some_bundle(source, goods), *source.choice([(None, source.randint(-2, 5)),
                                                                      (source.randint(-5, 2), None), (0, 3), (1, 1)])),
    }[word]()
    return (key, day, word, *parts)


def some_facts(source, houses, goods, days, most=9):
    return [some_fact(source, houses, goods, days, key) for key in source.sample(IDS, source.randint(0, most))]


def some_busy_facts(source, houses, goods, days, most=9):
    """Facts of which many meet: orders that fill each other, lines over which they are paid, moves that bound needs."""
    facts, keys = [], iter("".join(pair) for pair in product("abcdefgh", repeat=2))
    for day in range(1, days + 1):
        for _ in range(source.randint(1, most)):
            good, house = source.choice(goods), source.choice(houses)
            kind = source.random()
            if kind < 0.3:
                facts.append((next(keys), day, "order", house, {good: -1}, -source.randint(0, 4), source.randint(1, 4)))
            elif kind < 0.6:
                facts.append((next(keys), day, "order", house, {good: source.randint(1, 2)}, source.randint(4, 9), source.randint(1, 4)))
            elif kind < 0.75 and len(houses) > 1:
                facts.append((next(keys), day, "line", *source.sample(houses, 2), source.randint(1, 9), source.randint(0, 2)))
            elif kind < 0.9:
                pair = source.choice([(good, None), (None, good)])
                facts.append((next(keys), day, "move", *pair, source.randint(0, 3)))
            else:
                facts.append(some_fact(source, houses, goods, days, next(keys)))
    return source.sample(facts, len(facts))


def some_market(source):
    """Houses, goods and a number of days."""
    return (source.sample(HOUSES, source.randint(1, 4)), source.sample(GOODS, source.randint(1, 3)), source.randint(1, 4))


def told(fact):
    """A fact as [72] tells it."""
    return tuple({good: part[good] for good in sorted(part) if part[good] != 0} if isinstance(part, dict) else part
                 for part in fact)


def counting_by_rule(facts):
    struck = {fact[2] for fact in facts if fact[1] == "strike"}
    return sorted((told(fact) for fact in facts if fact[1] != "strike" and fact[0] not in struck), key=lambda fact: fact[0])


def in_force_by_rule(facts, day):
    found = []
    for word in ("line", "move"):
        known = [fact for fact in counting_by_rule(facts) if fact[2] == word and fact[1] <= day]
        kept = [fact[3:] for fact in known if not any(other[3:5] == fact[3:5] and (other[1], other[0]) > (fact[1], fact[0])
                                                      for other in known)]
        found.append(sorted(kept, key=lambda parts: [part or "" for part in parts[:2]]))
    return tuple(found)


def told_sums(sums):
    """Sums as they are told: sorted, without 0, Ratios."""
    return {place: ratio(sums[place]) for place in sorted(sums) if sums[place] != 0}


def lines(*parts):
    """An entry of (account, unit, amount), of which some may come twice or be 0."""
    sums = {}
    for account, unit, amount in parts:
        sums[account, unit] = sums.get((account, unit), Fraction(0)) + fraction(amount)
    return [(account, unit, amount) for (account, unit), amount in told_sums(sums).items()]


def plus(balances, entries):
    sums = {place: fraction(number) for place, number in balances.items()}
    for entry in entries:
        for account, unit, amount in entry:
            sums[account, unit] = sums.get((account, unit), Fraction(0)) + fraction(amount)
    return told_sums(sums)


def held(balances, account, unit="coin"):
    return fraction(balances.get((account, unit), 0))


def entries_by_sums(word, reads):
    """The entries of [73]."""
    if word == "in":
        return [lines((f"{house}.{'coin' if unit == 'coin' else 'goods'}", unit, amount), ("outside", unit, -amount))
                for house, unit, amount in (reads[1][key] for key in sorted(reads[1]))]
    if word == "trades":
        orders, fills, prices, _ = reads
        found = []
        for key in sorted(orders):
            house, bundle, fill = orders[key][0], orders[key][1], fraction(fills[key])
            if fill > 0:
                coin = sum(fill * number * fraction(prices[good]) for good, number in bundle.items())
                goods = [line for good, number in bundle.items()
                         for line in ((f"{house}.goods", good, fill * number), ("hall", good, -fill * number))]
                found.append(lines(*goods, (f"{house}.owed", "coin", -coin), ("hall", "coin", coin)))
        return found
    if word == "pay":
        return [lines((f"{one}.coin", "coin", -number), (f"{other}.coin", "coin", number),
                      (f"{other}.owed", "coin", -number), (f"{one}.owed", "coin", number))
                for (one, other), number in ((pair, fraction(reads[0][pair])) for pair in sorted(reads[0])) if number > 0]
    if word == "call":
        needs, balances = reads
        moved = [(house, max(fraction(needs[house]), 0) - held(balances, f"{house}.cover")) for house in sorted(needs)
                 if not isinstance(needs[house], str)]
        return [lines((f"{house}.coin", "coin", -amount), (f"{house}.cover", "coin", amount)) for house, amount in moved
                if amount != 0]
    return []


def need_by_rule(goods, moves, holdings):
    conditions = Moves(goods, moves)
    found = outcome(conditions, holdings)
    return {"ring": "ring", "family": "endless"}.get(found) or cover(conditions, holdings)


def steps_by_sums(houses, goods, days, facts):
    """The dict from (day, word) to what the step reads, what it makes, and its entries."""
    known, balances, found = counting_by_rule(facts), {}, {}
    houses = sorted(houses)
    for day in range(1, days + 1):
        today = {word: {fact[0]: fact[3:] for fact in known if fact[1] == day and fact[2] == word} for word in KINDS}
        trusted, kept = in_force_by_rule(facts, day)

        def book(word, *reads):
            nonlocal balances
            entries = entries_by_sums(word, reads)
            balances = plus(balances, entries)
            found[day, word] = (reads, balances, entries)

        book("in", balances, today["transfer"])
        deals = Round({key: Order(*parts) for key, parts in today["order"].items()})
        fills, prices = first_fills(deals), told_prices(deals)
        found[day, "round"] = ((today["order"],), (fills, prices), [])
        book("trades", today["order"], fills, prices, balances)
        owed = {house: ratio(-held(balances, f"{house}.owed")) for house in houses}
        payments = {line[:2]: number for line, number in zip(trusted, first(Clearing(owed, trusted)))}
        found[day, "clear"] = ((owed, trusted), payments, [])
        book("pay", payments, balances)
        holdings = {house: {good: balances[f"{house}.goods", good] for good in sorted(goods)
                            if (f"{house}.goods", good) in balances} for house in houses}
        needs = {house: need_by_rule(goods, kept, holdings[house]) for house in houses}
        found[day, "cover"] = ((holdings, kept), needs, [])
        book("call", needs, balances)
        names = {}
        for key in sorted(today["future"]):
            names[today["future"][key][0]] = today["future"][key][1]
        futures = {name: names[name] for name in sorted(names)}
        quotes = today["quote"]
        is_fair = not futures or are_fair(Futures(futures), list(quotes.values()))
        found[day, "fair"] = ((futures, quotes), is_fair, [])
    return found


class PlainHall:
    """A hall by [76] and [77]: all is reckoned anew from the facts each time."""

    def __init__(self, houses, goods, days):
        self.market, self.facts, self.kept = (houses, goods, days), {}, []

    def steps(self):
        return steps_by_sums(*self.market, list(self.facts.values()))

    def balances(self, day):
        return self.steps()[day, "call"][1]

    def corrections(self):
        if not self.kept:
            return []
        now, known = self.balances(len(self.kept)), self.kept[-1][3]
        return lines(*[(*place, number) for place, number in now.items()],
                     *[(*place, -fraction(number)) for place, number in known.items()])

    def told(self, day):
        """The four parts of [77]."""
        if day <= len(self.kept):
            return self.kept[day - 1]
        steps = self.steps()
        return (self.corrections() if day == len(self.kept) + 1 else [], [steps[day, word][1] for word in WORDS],
                [entry for word in WORDS for entry in steps[day, word][2]], steps[day, "call"][1])

    def do(self, deed):
        word, what = deed
        if word == "tell":
            self.facts.setdefault(what[0], told(what))
        else:
            self.kept = self.kept + [self.told(day) for day in range(len(self.kept) + 1, what + 1)]
