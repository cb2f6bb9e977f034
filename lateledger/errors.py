"""The errors of stages 1 to 6: each keeps what it is given under the names of its parameters."""


class LedgerError(ValueError):
    """A value was passed that is not valid."""


class InvalidNumber(LedgerError):
    def __init__(self, value):
        self.value = value


class InvalidUnknowns(LedgerError):
    def __init__(self, position):
        self.position = position


class InvalidRows(LedgerError):
    def __init__(self, position):
        self.position = position


class InvalidRow(LedgerError):
    def __init__(self, value):
        self.value = value


class InvalidPlace(LedgerError):
    def __init__(self, value):
        self.value = value


class InvalidEnds(LedgerError):
    def __init__(self, value):
        self.value = value


class InvalidValues(LedgerError):
    def __init__(self, value):
        self.value = value


class InvalidSystem(LedgerError):
    def __init__(self, value):
        self.value = value


class InvalidAims(LedgerError):
    def __init__(self, position):
        self.position = position


class InvalidChart(LedgerError):
    def __init__(self, value):
        self.value = value


class InvalidAccounts(LedgerError):
    def __init__(self, position):
        self.position = position


class InvalidUnits(LedgerError):
    def __init__(self, position):
        self.position = position


class InvalidEntries(LedgerError):
    def __init__(self, position):
        self.position = position


class InvalidEntry(LedgerError):
    def __init__(self, value):
        self.value = value


class InvalidJournal(LedgerError):
    def __init__(self, value):
        self.value = value


class InvalidReport(LedgerError):
    def __init__(self, value):
        self.value = value


class InvalidReports(LedgerError):
    def __init__(self, value):
        self.value = value


class InvalidNumbers(LedgerError):
    def __init__(self, value):
        self.value = value


class InvalidPrices(LedgerError):
    def __init__(self, value):
        self.value = value


class InvalidHouse(LedgerError):
    def __init__(self, value):
        self.value = value


class InvalidBundle(LedgerError):
    def __init__(self, value):
        self.value = value


class InvalidLimit(LedgerError):
    def __init__(self, value):
        self.value = value


class InvalidMost(LedgerError):
    def __init__(self, value):
        self.value = value


class InvalidOrder(LedgerError):
    def __init__(self, value):
        self.value = value


class InvalidOrders(LedgerError):
    def __init__(self, name):
        self.name = name


class InvalidName(LedgerError):
    def __init__(self, value):
        self.value = value


class InvalidRound(LedgerError):
    def __init__(self, value):
        self.value = value


class InvalidFills(LedgerError):
    def __init__(self, value):
        self.value = value


class InvalidGood(LedgerError):
    def __init__(self, value):
        self.value = value


class InvalidOwed(LedgerError):
    def __init__(self, value):
        self.value = value


class InvalidLines(LedgerError):
    def __init__(self, position):
        self.position = position


class InvalidLine(LedgerError):
    def __init__(self, value):
        self.value = value


class InvalidPayments(LedgerError):
    def __init__(self, value):
        self.value = value


class InvalidSet(LedgerError):
    def __init__(self, position):
        self.position = position


class InvalidHouses(LedgerError):
    def __init__(self, position):
        self.position = position


class InvalidGoods(LedgerError):
    def __init__(self, position):
        self.position = position


class InvalidConditions(LedgerError):
    def __init__(self, position):
        self.position = position


class InvalidCondition(LedgerError):
    def __init__(self, value):
        self.value = value


class InvalidHoldings(LedgerError):
    def __init__(self, value):
        self.value = value


class InvalidHolders(LedgerError):
    def __init__(self, value):
        self.value = value


class InvalidMove(LedgerError):
    def __init__(self, value):
        self.value = value


class InvalidPosition(LedgerError):
    def __init__(self, value):
        self.value = value


class InvalidPair(LedgerError):
    def __init__(self, value):
        self.value = value


class InvalidSharing(LedgerError):
    def __init__(self, value):
        self.value = value


class InvalidFutures(LedgerError):
    def __init__(self, value):
        self.value = value


class InvalidQuotes(LedgerError):
    def __init__(self, position):
        self.position = position


class InvalidDeal(LedgerError):
    def __init__(self, value):
        self.value = value


class InvalidWeights(LedgerError):
    def __init__(self, value):
        self.value = value


class InvalidSide(LedgerError):
    def __init__(self, value):
        self.value = value


class MissingError(LookupError):
    """Something was asked for that is not there."""


class UnknownAccount(MissingError):
    def __init__(self, value):
        self.value = value


class UnknownUnit(MissingError):
    def __init__(self, value):
        self.value = value


class UnknownOrder(MissingError):
    def __init__(self, value):
        self.value = value


class UnknownLine(MissingError):
    def __init__(self, value):
        self.value = value


class UnknownFuture(MissingError):
    def __init__(self, value):
        self.value = value


class StateError(RuntimeError):
    """What was asked for cannot be told as things stand."""


class DividedByZero(StateError):
    """A NUMBER was to be divided by 0."""


class NoSolution(StateError):
    """No values solve the system."""


class NoEnd(StateError):
    """Values go on without end."""


class NameTaken(StateError):
    def __init__(self, name):
        self.name = name


class OtherChart(StateError):
    """The journals have unlike charts."""


class NotTold(StateError):
    """The report is not told by the kept ones."""


class DoNotStand(StateError):
    """No journal has the numbers as its values."""


class NoMove(StateError):
    """No move keeps all conditions."""


class WithoutEnd(StateError):
    """The holdings can lose without end."""


class OtherGoods(StateError):
    def __init__(self, one, other):
        self.one = one
        self.other = other


class NotFair(StateError):
    """The quotes let somebody gain surely."""


class LimitError(ArithmeticError):
    """A limit was passed over."""


class TooMany(LimitError):
    def __init__(self, what, allowed):
        self.what = what
        self.allowed = allowed
