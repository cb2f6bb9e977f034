"""Quotes of bundles: whether they are fair, with weights, or let somebody gain surely, with a deal."""

from lateledger.dealing import fair_weights_of, gain_of_deal, sides_of, values_of_quotes
from lateledger.errors import InvalidDeal, InvalidQuotes, InvalidWeights, TooMany
from lateledger.fills import are_of_just
from lateledger.ratios import Ratio, is_number, ratio_of, sum_of_products
from lateledger.words import is_bundle, is_list, is_pair, is_triple

MOST_QUOTES = 8


def is_quote(value):
    """Whether any value is a quote."""
    if not is_triple(value) or not is_bundle(value[0]):
        return False
    return all([price is None or is_number(price) for price in value[1:]])


def are_quotes(value):
    """Whether any value is a list of quotes, not more than are let."""
    return is_list(value) and len(value) <= MOST_QUOTES and all([is_quote(quote) for quote in value])


def check_quotes(quotes):
    """InvalidQuotes unless the value is a list of quotes."""
    if not is_list(quotes):
        raise InvalidQuotes(None)
    for position, quote in enumerate(quotes):
        if not is_quote(quote):
            raise InvalidQuotes(position)


def check_many_quotes(quotes):
    """TooMany if there are more quotes than are let."""
    if len(quotes) > MOST_QUOTES:
        raise TooMany("quotes", MOST_QUOTES)


def is_deal(quotes, value):
    """Whether any value is a deal for the quotes."""
    if not is_list(value) or len(value) != len(quotes):
        return False
    for part, (_, bid, ask) in zip(value, quotes):
        if not is_pair(part) or not _is_part(part[0], ask) or not _is_part(part[1], bid):
            return False
    return True


def _is_part(number, price):
    if not is_number(number) or ratio_of(number).sign < 0:
        return False
    return price is not None or ratio_of(number).sign == 0


def are_weights(futures, value):
    """Whether any value is weights of the futures."""
    return are_of_just(futures.names(), value)


def check_weights(futures, weights):
    """InvalidWeights unless the value is weights of the futures."""
    if not are_weights(futures, weights):
        raise InvalidWeights(weights)


def value_by(futures, weights, bundle):
    """The value of what is a bundle by weights."""
    worths = futures.all_worths(bundle)
    return sum_of_products([ratio_of(weights[name]) for name in worths], list(worths.values()))


def sides_broken(futures, quotes, weights):
    """The sorted list of the sides that weights do not keep."""
    told = []
    for side in sides_of(quotes):
        bundle, bid, ask = quotes[side[0]]
        value = value_by(futures, weights, bundle)
        is_kept = value.is_at_most(ask) if side[1] == "ask" else not value.is_below(bid)
        if not is_kept:
            told.append(side)
    return told


def coin_of_deal(quotes, deal):
    """What a deal comes to in coin now."""
    told = []
    for (bought, sold), (_, bid, ask) in zip(deal, quotes):
        told.append(Ratio(0) if ask is None else -ratio_of(ask) * bought)
        told.append(Ratio(0) if bid is None else ratio_of(bid) * sold)
    return Ratio.total(told)


def outcome_by(futures, quotes, deal):
    """The tuple of what a deal comes to in coin now, and the dict of what it does in each future."""
    often = [ratio_of(bought) - sold for bought, sold in deal]
    values = values_of_quotes(futures, quotes)
    return (coin_of_deal(quotes, deal), {name: sum_of_products(often, worths) for name, worths in values.items()})


def sides(quotes):
    """The sorted list of the sides of the quotes."""
    check_quotes(quotes)
    check_many_quotes(quotes)
    return sides_of(quotes)


def outcome(futures, quotes, deal):
    """The tuple of what a deal comes to in coin now, and the dict of what it does in each future."""
    check_quotes(quotes)
    if not is_deal(quotes, deal):
        raise InvalidDeal(deal)
    check_many_quotes(quotes)
    return outcome_by(futures, quotes, deal)


def value_of(futures, weights, bundle):
    """The value of a bundle by weights."""
    check_weights(futures, weights)
    return value_by(futures, weights, bundle)


def broken_sides(futures, quotes, weights):
    """The sorted list of the sides that weights do not keep."""
    check_quotes(quotes)
    check_weights(futures, weights)
    check_many_quotes(quotes)
    return sides_broken(futures, quotes, weights)


def are_fair(futures, quotes):
    """Whether the quotes have fair weights."""
    check_quotes(quotes)
    check_many_quotes(quotes)
    return fair_weights_of(futures, quotes, False) is not None


def fair_weights(futures, quotes):
    """Fair weights, None if there are none."""
    check_quotes(quotes)
    check_many_quotes(quotes)
    return fair_weights_of(futures, quotes, True)


def sure_gain(futures, quotes):
    """A sure gain, None if there is none."""
    check_quotes(quotes)
    check_many_quotes(quotes)
    return gain_of_deal(futures, quotes)


def are_fair_weights(futures, quotes, value):
    """Whether any value is fair weights."""
    check_quotes(quotes)
    check_many_quotes(quotes)
    if not are_weights(futures, value) or any([ratio_of(number).sign <= 0 for number in list(value.values())]):
        return False
    return len(sides_broken(futures, quotes, value)) == 0


def is_sure_gain(futures, quotes, value):
    """Whether any value is a sure gain."""
    check_quotes(quotes)
    check_many_quotes(quotes)
    if not is_deal(quotes, value):
        return False
    coin, worths = outcome_by(futures, quotes, value)
    signs = [number.sign for number in [coin] + list(worths.values())]
    return min(signs) >= 0 and max(signs) > 0
