"""What tomorrow may be, and what bundles are worth there."""

from lateledger.errors import InvalidBundle, InvalidFutures, TooMany, UnknownFuture
from lateledger.orders import told_bundle
from lateledger.words import is_among, is_bundle, is_name

MOST_FUTURES = 8


def _are_worths(value):
    """Whether any value is a dict from at least one NAME to dicts from goods to INTEGERS."""
    if not isinstance(value, dict) or len(value) == 0:
        return False
    return all([is_name(name) and is_bundle(worths) for name, worths in value.items()])


def check_bundle(bundle):
    """InvalidBundle unless the value is a bundle."""
    if not is_bundle(bundle):
        raise InvalidBundle(bundle)


class Futures:
    """One to eight futures by NAMES, each with what goods are worth there. It never changes."""

    def __init__(self, worths):
        if not _are_worths(worths):
            raise InvalidFutures(worths)
        if len(worths) > MOST_FUTURES:
            raise TooMany("futures", MOST_FUTURES)
        self._worths = {name: told_bundle(worths[name]) for name in sorted(worths)}

    def names(self):
        """The sorted list of the names."""
        return list(self._worths)

    def _check_name(self, name):
        if not is_among(self._worths, name):
            raise UnknownFuture(name)

    def worths(self, name):
        """The dict from the goods to what one is worth in a future, without those worth 0."""
        self._check_name(name)
        return {good: number for good, number in self._worths[name].items()}

    def _worth(self, bundle, name):
        worths = self._worths[name]
        return sum([number * worths.get(good, 0) for good, number in bundle.items()])

    def worth(self, bundle, name):
        """What a bundle is worth in a future."""
        check_bundle(bundle)
        self._check_name(name)
        return self._worth(bundle, name)

    def all_worths(self, bundle):
        """The dict from all names to what a bundle is worth there."""
        check_bundle(bundle)
        return {name: self._worth(bundle, name) for name in self._worths}

    def __len__(self):
        return len(self._worths)

    def __eq__(self, other):
        return isinstance(other, Futures) and self._worths == other._worths

    def __repr__(self):
        return f"Futures({self._worths!r})"
