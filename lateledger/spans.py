"""The fair prices of a bundle beside fair quotes, with covers, weights and ways; and quotes that are needless."""

from lateledger.dealing import cheapest_cost, cheapest_cover, fair_weights_of, gain_of_deal, is_side_needless
from lateledger.dealing import rising_weights, sides_of, told_quotes, without_side
from lateledger.errors import InvalidNumber, InvalidSide, NotFair
from lateledger.futures import check_bundle
from lateledger.quotes import are_weights, check_many_quotes, check_quotes, coin_of_deal, is_deal, outcome_by
from lateledger.quotes import sides_broken, value_by
from lateledger.ratios import is_number, ratio_of
from lateledger.words import is_count, is_pair


def _check_fair(futures, quotes):
    if fair_weights_of(futures, quotes, False) is None:
        raise NotFair()


def _check_priced(futures, quotes, bundle):
    check_quotes(quotes)
    check_bundle(bundle)
    check_many_quotes(quotes)
    _check_fair(futures, quotes)


def _check_judged(quotes, bundle):
    check_quotes(quotes)
    check_bundle(bundle)
    check_many_quotes(quotes)


def _is_fair_price(futures, quotes, bundle, price):
    return price is not None and fair_weights_of(futures, [*quotes, (bundle, price, price)], False) is not None


def span(futures, quotes, bundle):
    """The tuples (low end, whether it is a fair price) and (high end, whether it is one), None for missing ends."""
    _check_priced(futures, quotes, bundle)
    high = cheapest_cost(futures, quotes, bundle)
    turned = cheapest_cost(futures, quotes, {good: -number for good, number in bundle.items()})
    low = None if turned is None else -turned
    return ((low, _is_fair_price(futures, quotes, bundle, low)), (high, _is_fair_price(futures, quotes, bundle, high)))


def cover_cost(futures, quotes, bundle):
    """The high end of the fair prices of a bundle, None if it is missing."""
    _check_priced(futures, quotes, bundle)
    return cheapest_cost(futures, quotes, bundle)


def end_paper(futures, quotes, bundle):
    """An end paper for a bundle whose cover costs the high end, None if that is missing."""
    _check_priced(futures, quotes, bundle)
    return cheapest_cover(futures, quotes, bundle)


def way(futures, quotes, bundle):
    """A way for a bundle, None if there is none."""
    _check_priced(futures, quotes, bundle)
    return rising_weights(futures, quotes, bundle)


def gain_at(futures, quotes, bundle, price):
    """A sure gain of the quotes with the bundle at a price behind them, None if that is fair."""
    check_quotes(quotes)
    check_bundle(bundle)
    if not is_number(price):
        raise InvalidNumber(price)
    check_many_quotes(quotes)
    _check_fair(futures, quotes)
    return gain_of_deal(futures, [*quotes, (bundle, price, price)])


def is_cover(futures, quotes, bundle, value):
    """Whether any value is a cover of the bundle."""
    _check_judged(quotes, bundle)
    return _is_cover(futures, quotes, bundle, value)


def _is_cover(futures, quotes, bundle, value):
    if not is_deal(quotes, value):
        return False
    told, worths = outcome_by(futures, quotes, value)[1], futures.all_worths(bundle)
    return all([(told[name] - worths[name]).sign >= 0 for name in worths])


def _is_weighing(futures, value):
    """Whether any value is weights none of which is below 0."""
    return are_weights(futures, value) and all([ratio_of(number).sign >= 0 for number in list(value.values())])


def is_end_paper(futures, quotes, bundle, value):
    """Whether any value is an end paper for the bundle."""
    _check_judged(quotes, bundle)
    if not is_pair(value) or not _is_cover(futures, quotes, bundle, value[0]) or not _is_weighing(futures, value[1]):
        return False
    if len(sides_broken(futures, quotes, value[1])) > 0:
        return False
    return value_by(futures, value[1], bundle) == -coin_of_deal(quotes, value[0])


def is_way(futures, quotes, bundle, value):
    """Whether any value is a way for the bundle."""
    _check_judged(quotes, bundle)
    if not _is_weighing(futures, value) or value_by(futures, value, bundle).sign <= 0:
        return False
    for position, word in sides_of(quotes):
        sign = value_by(futures, value, quotes[position][0]).sign
        if sign == (1 if word == "ask" else -1):
            return False
    return True


def _is_side(quotes, value):
    """Whether any value is a side of the quotes."""
    if not is_pair(value) or not is_count(value[0]) or not isinstance(value[1], str):
        return False
    return (value[0], value[1]) in sides_of(quotes)


def is_needless(futures, quotes, side):
    """Whether all weights, none below 0, that keep the other sides keep this one."""
    check_quotes(quotes)
    if not _is_side(quotes, side):
        raise InvalidSide(side)
    check_many_quotes(quotes)
    _check_fair(futures, quotes)
    return is_side_needless(futures, quotes, side)


def lean(futures, quotes):
    """The quotes with None in the place of each side that is needless beside those left, the last side first."""
    check_quotes(quotes)
    check_many_quotes(quotes)
    _check_fair(futures, quotes)
    told = told_quotes(quotes)
    for side in sides_of(quotes)[::-1]:
        if is_side_needless(futures, told, side):
            told = without_side(told, side)
    return told
