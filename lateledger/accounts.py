"""Charts: accounts, each one below its head, and units."""

from lateledger.errors import InvalidAccounts, InvalidChart, InvalidUnits, TooMany, UnknownAccount, UnknownUnit
from lateledger.words import is_among, is_list, is_name

MOST_ACCOUNTS = 60
MOST_UNITS = 8
MOST_NAMES = 3


def is_account(value):
    """Whether any value is one to three NAMES joined by points."""
    if not isinstance(value, str):
        return False
    names = value.split(".")
    return len(names) <= MOST_NAMES and all([is_name(name) for name in names])


def head_of(account):
    """What stands ahead of the last point of an account, None without one."""
    if "." not in account:
        return None
    return account.rpartition(".")[0]


def check_chart(chart):
    """InvalidChart unless the value is a Chart."""
    if not isinstance(chart, Chart):
        raise InvalidChart(chart)


def check_place(chart, account, unit):
    """UnknownAccount, UnknownUnit unless they are those of the chart."""
    if account not in chart:
        raise UnknownAccount(account)
    if not chart.has_unit(unit):
        raise UnknownUnit(unit)


def is_place(chart, value):
    """Whether any value is a tuple of an account and a unit of the chart."""
    return isinstance(value, tuple) and len(value) == 2 and value[0] in chart and chart.has_unit(value[1])


def _check_accounts(accounts):
    if not is_list(accounts) or len(accounts) == 0:
        raise InvalidAccounts(None)
    ahead = {}
    for position, account in enumerate(accounts):
        if not is_account(account) or account in ahead:
            raise InvalidAccounts(position)
        ahead[account] = True
    for position, account in enumerate(accounts):
        if head_of(account) is not None and head_of(account) not in ahead:
            raise InvalidAccounts(position)


def _check_units(units):
    if not is_list(units) or len(units) == 0:
        raise InvalidUnits(None)
    ahead = {}
    for position, unit in enumerate(units):
        if not is_name(unit) or unit in ahead:
            raise InvalidUnits(position)
        ahead[unit] = True


class Chart:
    """The accounts and units of a journal. It never changes."""

    def __init__(self, accounts, units):
        _check_accounts(accounts)
        _check_units(units)
        if len(accounts) > MOST_ACCOUNTS:
            raise TooMany("accounts", MOST_ACCOUNTS)
        if len(units) > MOST_UNITS:
            raise TooMany("units", MOST_UNITS)
        self._accounts = sorted(accounts)
        self._units = sorted(units)

    def accounts(self):
        """The sorted list of the accounts."""
        return list(self._accounts)

    def units(self):
        """The sorted list of the units."""
        return list(self._units)

    def head(self, account):
        """The head of an account, None without one."""
        if account not in self:
            raise UnknownAccount(account)
        return head_of(account)

    def below(self, account):
        """The sorted list of all accounts below this one."""
        if account not in self:
            raise UnknownAccount(account)
        return [other for other in self._accounts if other.startswith(account + ".")]

    def has_unit(self, value):
        """Whether any value is a unit of the chart."""
        return is_among(self._units, value)

    def __contains__(self, value):
        return is_among(self._accounts, value)

    def __len__(self):
        return len(self._accounts)

    def __eq__(self, other):
        return isinstance(other, Chart) and self._accounts == other._accounts and self._units == other._units

    def __repr__(self):
        return f"Chart({self._accounts!r}, {self._units!r})"
