"""The eight steps of a day: what each of them makes of what it reads, and the entries by which it does."""

from lateledger.cover import Losses
from lateledger.facts import COIN
from lateledger.faults import InvalidWord
from lateledger.fills import first_fills
from lateledger.futures import Futures
from lateledger.journals import lines_of, without_nought
from lateledger.lines import Clearing
from lateledger.moves import Moves, has_move
from lateledger.nets import first
from lateledger.orders import Order, Round, told_bundle
from lateledger.quotes import are_fair
from lateledger.ratios import Ratio, is_number, ratio_of
from lateledger.rounds import told_prices
from lateledger.words import is_among

STEPS = ("in", "round", "trades", "clear", "pay", "cover", "call", "fair")
# The steps that make balances, with the place of the balances in what they read.
BALANCES_AT = {"in": 0, "trades": 3, "pay": 1, "call": 1}

HALL = "hall"
OUTSIDE = "outside"
RING = "ring"
ENDLESS = "endless"


def goods_account(house):
    """The account of a house's goods."""
    return house + ".goods"


def coin_account(house):
    """The account of a house's coin."""
    return house + ".coin"


def owed_account(house):
    """The account of what a house owes, turned round."""
    return house + ".owed"


def cover_account(house):
    """The account of the coin that a house has put aside for its need."""
    return house + ".cover"


def check_word(word):
    """InvalidWord unless the value is a step's word."""
    if not is_among(STEPS, word):
        raise InvalidWord(word)


def booked(balances, entries):
    """The balances behind some entries."""
    sums = {place: ratio_of(number) for place, number in balances.items()}
    for entry in entries:
        for account, unit, amount in entry:
            sums[(account, unit)] = ratio_of(amount) + sums.get((account, unit), 0)
    return without_nought(sums)


def entries_of(word, reads):
    """The list of the entries by which a step makes balances of what it reads; [] for other steps."""
    check_word(word)
    if word == "in":
        return _entries_of_transfers(reads[1])
    if word == "trades":
        return _entries_of_trades(reads[0], reads[1], reads[2])
    if word == "pay":
        return _entries_of_payments(reads[0])
    if word == "call":
        return _entries_of_calls(reads[0], reads[1])
    return []


def _entries_of_transfers(transfers):
    told = []
    for key in sorted(transfers):
        house, unit, amount = transfers[key]
        account = coin_account(house) if unit == COIN else goods_account(house)
        told.append(lines_of({(account, unit): Ratio(amount), (OUTSIDE, unit): Ratio(-amount)}))
    return told


def _entries_of_trades(orders, fills, prices):
    return [_entry_of_trade(orders[key], ratio_of(fills[key]), prices) for key in sorted(orders)
            if ratio_of(fills[key]).sign > 0]


def _entry_of_trade(order, fill, prices):
    house, bundle = order[0], told_bundle(order[1])
    amounts = {}
    coin = Ratio(0)
    for good, number in bundle.items():
        amount = fill * number
        amounts[(goods_account(house), good)] = amount
        amounts[(HALL, good)] = -amount
        coin = coin + amount * prices[good]
    amounts[(owed_account(house), COIN)] = -coin
    amounts[(HALL, COIN)] = coin
    return lines_of(amounts)


def _entries_of_payments(payments):
    told = []
    for one, other in sorted(payments):
        number = ratio_of(payments[(one, other)])
        if number.sign > 0:
            told.append(lines_of({(coin_account(one), COIN): -number, (coin_account(other), COIN): number,
                                  (owed_account(other), COIN): -number, (owed_account(one), COIN): number}))
    return told


def _entries_of_calls(needs, balances):
    told = []
    for house in sorted(needs):
        amount = _called(needs[house], balances.get((cover_account(house), COIN), 0))
        if amount.sign != 0:
            told.append(lines_of({(coin_account(house), COIN): -amount, (cover_account(house), COIN): amount}))
    return told


def _called(need, held):
    """What is moved into a house's cover, which holds so much."""
    if not is_number(need):
        return Ratio(0)
    wanted = ratio_of(need)
    return (wanted if wanted.sign > 0 else Ratio(0)) - held


def made(word, reads):
    """What a step makes when it reads this."""
    check_word(word)
    if word in BALANCES_AT:
        return booked(reads[BALANCES_AT[word]], entries_of(word, reads))
    if word == "round":
        return _fills_and_prices(reads[0])
    if word == "clear":
        return _payments(reads[0], reads[1])
    if word == "cover":
        return _needs(reads[0], reads[1])
    return _is_fair(reads[0], reads[1])


def _fills_and_prices(orders):
    if len(orders) == 0:
        return ({}, {})
    deals = Round({key: Order(*parts) for key, parts in orders.items()})
    return (first_fills(deals), told_prices(deals))


def _payments(owed, lines):
    pairs = [(line[0], line[1]) for line in sorted(lines)]
    if all([ratio_of(number).sign == 0 for number in list(owed.values())]):
        # Where nothing is owed nothing is paid, and the first payments send nothing round either.
        return {pair: Ratio(0) for pair in pairs}
    return {pair: number for pair, number in zip(pairs, first(Clearing(owed, lines)))}


def _needs(holdings, moves):
    named = [good for one, other, _ in moves for good in (one, other) if good is not None]
    named = named + [good for held in list(holdings.values()) for good in held]
    goods = sorted(set(named))
    if len(goods) == 0:
        return {house: Ratio(0) for house in sorted(holdings)}
    told = Moves(goods, moves)
    if not has_move(told):
        return {house: RING for house in sorted(holdings)}
    return {house: _need(told, holdings[house]) for house in sorted(holdings)}


def _need(moves, holdings):
    losses = Losses(moves, holdings)
    return losses.cover() if losses.outcome() == "cover" else ENDLESS


def _is_fair(futures, quotes):
    if len(futures) == 0:
        return True
    return are_fair(Futures(futures), [quotes[key] for key in sorted(quotes)])
