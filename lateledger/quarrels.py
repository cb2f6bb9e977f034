"""Quarrels of two logs, with the fewest deeds that are in all of them, and the most quarrels that are apart."""

from lateledger.deeds import MOST_DEEDS, are_agreed, check_hall, is_deed_for
from lateledger.faults import InvalidDeeds
from lateledger.pairing import first_cover, greatest_matching
from lateledger.words import is_count, is_list, is_pair


def check_log(hall, log):
    """InvalidDeeds unless the value is a log of deeds of what is a Hall."""
    if not is_list(log) or len(log) > MOST_DEEDS:
        raise InvalidDeeds(None)
    for position, deed in enumerate(log):
        if not is_deed_for(hall, deed):
            raise InvalidDeeds(position)


def check_logs(hall, one, other):
    """InvalidHall, InvalidDeeds unless these are a Hall and two logs of its deeds."""
    check_hall(hall)
    check_log(hall, one)
    check_log(hall, other)


def quarrels_of(one, other):
    """The sorted list of the quarrels of what are two logs."""
    return [(left, right) for left, deed in enumerate(one) for right, rival in enumerate(other)
            if not are_agreed(deed, rival)]


def quarrels(hall, one, other):
    """The sorted list of the quarrels of two logs."""
    check_logs(hall, one, other)
    return quarrels_of(one, other)


def least_cover(hall, one, other):
    """The first one, sorted, of the covers of two logs with the fewest deeds."""
    check_logs(hall, one, other)
    return first_cover(quarrels_of(one, other))


def matching(hall, one, other):
    """A matching of two logs with the most quarrels."""
    check_logs(hall, one, other)
    return greatest_matching(quarrels_of(one, other))


def is_cover(hall, one, other, value):
    """Whether any value is a cover of two logs."""
    check_logs(hall, one, other)
    return _is_cover(one, other, value)


def _is_cover(one, other, value):
    if not is_list(value) or not all([_is_place(one, other, place) for place in value]):
        return False
    if list(value) != sorted(set(value)):
        return False
    return all([(0, left) in value or (1, right) in value for left, right in quarrels_of(one, other)])


def _is_place(one, other, value):
    """Whether any value is a tuple of a side and a position in the log of this side."""
    if not is_pair(value) or not all([is_count(number) for number in value]) or value[0] > 1:
        return False
    return value[1] < len(one if value[0] == 0 else other)


def is_matching(hall, one, other, value):
    """Whether any value is a matching of two logs."""
    check_logs(hall, one, other)
    return _is_matching(one, other, value)


def _is_matching(one, other, value):
    if not is_list(value) or not all([is_pair(pair) and is_count(pair[0]) and is_count(pair[1]) for pair in value]):
        return False
    found = quarrels_of(one, other)
    if not all([(left, right) in found for left, right in value]):
        return False
    return all([len(set([pair[side] for pair in value])) == len(value) for side in (0, 1)])


def are_best(hall, one, other, cover, pairs):
    """Whether any two values are a cover and a matching of two logs of equal sizes."""
    check_logs(hall, one, other)
    return _is_cover(one, other, cover) and _is_matching(one, other, pairs) and len(cover) == len(pairs)
