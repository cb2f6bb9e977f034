"""The plain kinds of values: INTEGERS, COUNTS, NAMES, GOODS, BUNDLES."""

LETTERS = "abcdefghijklmnopqrstuvwxyz"
MOST_LETTERS = 8
NO_GOODS = ("coin", "hall", "outside")


def is_integer(value):
    """Whether any value is an INTEGER: an int, but no bool."""
    return isinstance(value, int) and not isinstance(value, bool)


def is_count(value):
    """Whether any value is a COUNT: an INTEGER of at least 0."""
    return is_integer(value) and value >= 0


def is_name(value):
    """Whether any value is a NAME: one to eight letters from a to z."""
    if not isinstance(value, str) or not 1 <= len(value) <= MOST_LETTERS:
        return False
    return all([sign in LETTERS for sign in value])


def is_good(value):
    """Whether any value is a GOOD: a NAME that is not kept for something else."""
    return is_name(value) and value not in NO_GOODS


def is_bundle(value):
    """Whether any value is a BUNDLE: a dict from GOODS to INTEGERS."""
    if not isinstance(value, dict):
        return False
    return all([is_good(good) and is_integer(number) for good, number in value.items()])


def is_list(value):
    """Whether any value may stand where a list is passed."""
    return isinstance(value, (list, tuple))


def is_among(names, value):
    """Whether any value is one of some strings, the keys of a dict or the elements of a list.

    What is no string is none of them, even if it calls itself equal to all.
    """
    return isinstance(value, str) and value in names


def is_keyed_among(names, value):
    """Whether any value is a dict whose keys are some of the strings."""
    return isinstance(value, dict) and all([is_among(names, key) for key in value])


def is_pair(value):
    """Whether any value is a tuple of two."""
    return isinstance(value, tuple) and len(value) == 2


def is_triple(value):
    """Whether any value is a tuple of three."""
    return isinstance(value, tuple) and len(value) == 3
