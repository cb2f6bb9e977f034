"""Commands of a desk: which records are some, and what is told of a hall in answer to them."""

from lateledger.accounts import is_account
from lateledger.errors import InvalidHouse, UnknownAccount, UnknownUnit
from lateledger.facts import COIN, is_day
from lateledger.faults import InvalidCommand, InvalidDay, UnknownName
from lateledger.numerals import count_in
from lateledger.ratios import Ratio
from lateledger.reports import cheapest_set
from lateledger.steps import STEPS, owed_account
from lateledger.texts import NOTHING
from lateledger.weighing import weights_at
from lateledger.words import is_name

UNDO = "undo"
# The words behind the first one of each command but the lines of deeds.
COMMANDS = {
    "undo": (), "closed": (), "fills": ("day",), "prices": ("day",), "owes": ("house", "day"),
    "balance": ("account", "unit", "day"), "need": ("house", "day"), "fair": ("day",), "corrections": (),
    "value": ("name", "day"), "enough": (),
}


def _part_of(kind, word):
    """What a word of a command tells, None if it cannot stand in this place."""
    if kind == "day":
        return count_in(word)
    if kind == "account":
        return word if is_account(word) else None
    return word if is_name(word) else None


def words_of(command):
    """The list of the first word of a record and what the others tell: InvalidCommand unless it is a command."""
    words = command.split(" ")
    if words[0] not in COMMANDS or len(words) != len(COMMANDS[words[0]]) + 1:
        raise InvalidCommand(command)
    parts = [_part_of(kind, word) for kind, word in zip(COMMANDS[words[0]], words[1:])]
    if None in parts:
        raise InvalidCommand(command)
    return [words[0], *parts]


def check_words(words, hall, chart, reports):
    """InvalidHouse, UnknownAccount, UnknownUnit, UnknownName, InvalidDay unless the words name what is there."""
    for kind, part in zip(COMMANDS[words[0]], words[1:]):
        if kind == "house" and part not in hall.houses():
            raise InvalidHouse(part)
        if kind == "account" and part not in chart:
            raise UnknownAccount(part)
        if kind == "unit" and not chart.has_unit(part):
            raise UnknownUnit(part)
        if kind == "name" and part not in reports:
            raise UnknownName(part)
        if kind == "day" and not is_day(part, hall.days):
            raise InvalidDay(part)


def _joined(parts):
    """Parts with one blank between them, or what stands for none."""
    return " ".join([str(part) for part in parts]) if len(parts) > 0 else NOTHING


def _made_on(hall, day, word):
    """What is told that a step of a day makes."""
    return hall.told(day)[STEPS.index(word)]


def _told_pairs(numbers):
    return _joined([part for pair in numbers.items() for part in pair])


def answer(words, hall, chart, reports):
    """What a hall tells in answer to the words of a command that changes nothing."""
    if words[0] == "closed":
        return str(hall.closed)
    if words[0] == "corrections":
        return _joined([part for line in hall.corrections() for part in line])
    if words[0] == "enough":
        return _joined(cheapest_set(chart, reports, {name: 0 for name in reports}))
    return _answer_of_day(words[0], words[1:-1], words[-1], hall, chart, reports)


def _answer_of_day(word, parts, day, hall, chart, reports):
    if word == "fills" or word == "prices":
        fills, prices = _made_on(hall, day, "round")
        return _told_pairs(fills if word == "fills" else prices)
    if word == "fair":
        return "yes" if _made_on(hall, day, "fair") else "no"
    if word == "need":
        return str(_made_on(hall, day, "cover")[parts[0]])
    balances = hall.told_balances(day)
    if word == "owes":
        return str(-balances.get((owed_account(parts[0]), COIN), Ratio(0)))
    if word == "balance":
        accounts = [parts[0]] + chart.below(parts[0])
        return str(Ratio.total([balances.get((account, parts[1]), 0) for account in accounts]))
    weights = weights_at(chart, reports[parts[0]])
    return str(Ratio.total([balances[place] * number for place, number in weights.items() if place in balances]))
