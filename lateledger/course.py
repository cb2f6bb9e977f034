"""The course of a run: all its days, step by step, with what each step reads and makes."""

from lateledger.facts import COIN, counting, forced, futures_on, parts_on
from lateledger.ratios import Ratio
from lateledger.steps import BALANCES_AT, STEPS, goods_account, made, owed_account


class Known:
    """What is known of one day: the facts that its steps read. It never changes."""

    def __init__(self, houses, facts, day):
        """Take the sorted houses, and the facts of all days that count, sorted by ids."""
        self._houses = houses
        self._transfers = parts_on(facts, day, "transfer")
        self._orders = parts_on(facts, day, "order")
        self._futures = futures_on(facts, day)
        self._quotes = parts_on(facts, day, "quote")
        self._lines, self._moves = forced(facts, day)

    def read_by(self, word, makes, balances):
        """What a step reads where the steps ahead of it have made this, and these are the last balances."""
        if word == "in":
            return (balances, self._transfers)
        if word == "round":
            return (self._orders,)
        if word == "trades":
            return (self._orders, *makes["round"], balances)
        if word == "clear":
            return (owed_by(self._houses, balances), self._lines)
        if word == "pay":
            return (makes["clear"], balances)
        if word == "cover":
            return (holdings_by(self._houses, balances), self._moves)
        if word == "call":
            return (makes["cover"], balances)
        return (self._futures, self._quotes)


def owed_by(houses, balances):
    """The dict from the houses to what each owes by these balances."""
    return {house: -balances.get((owed_account(house), COIN), Ratio(0)) for house in houses}


def holdings_by(houses, balances):
    """The dict from the houses to the goods that each holds by these balances."""
    accounts = {goods_account(house): house for house in houses}
    told = {house: {} for house in houses}
    for (account, unit), number in balances.items():
        if account in accounts:
            told[accounts[account]][unit] = number
    return told


class Course:
    """All steps of some days with what is known. It never changes."""

    def __init__(self, houses, days, facts, ahead=None):
        """Take the sorted houses, the number of the days, a list of facts with unlike ids, and a Course.

        The Course is that of the same run with other facts: what its steps made is taken where they read the same.
        """
        self._steps = []
        self._anew = []
        known = counting(facts)
        balances = {}
        for day in range(1, days + 1):
            today, makes = Known(houses, known, day), {}
            for word in STEPS:
                reads = today.read_by(word, makes, balances)
                makes[word] = self._made(day, word, reads, ahead)
                self._steps.append((reads, makes[word]))
                if word in BALANCES_AT:
                    balances = makes[word]

    def _made(self, day, word, reads, ahead):
        if ahead is not None and ahead.reads(day, word) == reads:
            return ahead.makes(day, word)
        self._anew.append((day, word))
        return made(word, reads)

    def _step(self, day, word):
        return self._steps[(day - 1) * len(STEPS) + STEPS.index(word)]

    def reads(self, day, word):
        """What a step has read, not to be changed."""
        return self._step(day, word)[0]

    def makes(self, day, word):
        """What a step has made, not to be changed."""
        return self._step(day, word)[1]

    def anew(self):
        """The list of the tuples (day, word) of the steps that were done for this Course."""
        return list(self._anew)
