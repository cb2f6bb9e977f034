"""Futures and quotes to try, and the sums of [62] to [66] over Fractions."""

from fractions import Fraction

from lateledger.futures import Futures
from lateledger.ratios import Ratio
from tests.support import fraction

GOODS = ["corn", "oil", "tea"]


def some_futures(source, most=4, size=4):
    names = source.sample(["dry", "wet", "hot", "ice", "fog", "hail", "sun", "mud"], source.randint(1, most))
    return Futures({name: {good: source.randint(-1, size) for good in GOODS if source.random() < 0.8} for name in names})


def some_bundle(source, size=2):
    return {good: source.randint(-size, size) for good in GOODS if source.random() < 0.7}


def value_by_sums(futures, weights, bundle):
    return sum((fraction(number) * worth_by_sums(futures, bundle, name) for name, number in weights.items()), Fraction(0))


def worth_by_sums(futures, bundle, name):
    worths = futures.worths(name)
    return sum(number * worths.get(good, 0) for good, number in bundle.items())


def some_quotes(source, futures, most=4, spread=3):
    """Quotes, most of them around what some weights make of the bundles."""
    weights = {name: Fraction(source.randint(1, 4), 2) for name in futures.names()}
    quotes = []
    for _ in range(source.randint(0, most)):
        bundle = some_bundle(source)
        value = value_by_sums(futures, weights, bundle)
        bid = value - Fraction(source.randint(-2 if source.random() < 0.3 else 0, spread), 2)
        ask = value + Fraction(source.randint(-2 if source.random() < 0.3 else 0, spread), 2)
        kind = source.random()
        told = [Ratio(price.numerator, price.denominator) for price in (bid, ask)]
        quotes.append((bundle, None if kind < 0.2 else told[0], None if 0.15 < kind < 0.35 else told[1]))
    return quotes


def sides_by_sums(quotes):
    return [(at, word) for at, (_, bid, ask) in enumerate(quotes) for word, price in (("ask", ask), ("bid", bid))
            if price is not None]


def broken_by_sums(futures, quotes, weights):
    told = []
    for at, word in sides_by_sums(quotes):
        bundle, bid, ask = quotes[at]
        value = value_by_sums(futures, weights, bundle)
        if value > fraction(ask) if word == "ask" else value < fraction(bid):
            told.append((at, word))
    return told


def are_fair_by_sums(futures, quotes, weights):
    return (list(weights) == futures.names() and all(fraction(number) > 0 for number in weights.values())
            and not broken_by_sums(futures, quotes, weights))


def is_deal_by_sums(quotes, deal):
    return len(deal) == len(quotes) and all(
        fraction(bought) >= 0 and fraction(sold) >= 0 and (ask is not None or fraction(bought) == 0)
        and (bid is not None or fraction(sold) == 0) for (bought, sold), (_, bid, ask) in zip(deal, quotes))


def outcome_by_sums(futures, quotes, deal):
    coin, worths = Fraction(0), {name: Fraction(0) for name in futures.names()}
    for (bought, sold), (bundle, bid, ask) in zip(deal, quotes):
        coin += fraction(sold) * fraction(bid or 0) - fraction(bought) * fraction(ask or 0)
        for name in worths:
            worths[name] += (fraction(bought) - fraction(sold)) * worth_by_sums(futures, bundle, name)
    return coin, worths


def gains_surely(futures, quotes, deal):
    coin, worths = outcome_by_sums(futures, quotes, deal)
    told = [coin, *worths.values()]
    return is_deal_by_sums(quotes, deal) and min(told) >= 0 and max(told) > 0


def covers(futures, quotes, bundle, deal):
    worths = outcome_by_sums(futures, quotes, deal)[1]
    return is_deal_by_sums(quotes, deal) and all(worths[name] >= worth_by_sums(futures, bundle, name) for name in worths)


def ends_by_sums(futures, quotes, bundle, paper):
    deal, weights = paper
    return (covers(futures, quotes, bundle, deal) and list(weights) == futures.names()
            and all(fraction(number) >= 0 for number in weights.values()) and not broken_by_sums(futures, quotes, weights)
            and value_by_sums(futures, weights, bundle) == -outcome_by_sums(futures, quotes, deal)[0])


def rises_by_sums(futures, quotes, bundle, weights):
    if list(weights) != futures.names() or any(fraction(number) < 0 for number in weights.values()):
        return False
    for told, bid, ask in quotes:
        value = value_by_sums(futures, weights, told)
        if ask is not None and value > 0 or bid is not None and value < 0:
            return False
    return value_by_sums(futures, weights, bundle) > 0
