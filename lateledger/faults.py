"""The errors of stages 7 to 9, of the same families."""
from lateledger.errors import LedgerError, MissingError, StateError


class InvalidDays(LedgerError):
    def __init__(self, value):
        self.value = value


class InvalidDay(LedgerError):
    def __init__(self, value):
        self.value = value


class InvalidWord(LedgerError):
    def __init__(self, value):
        self.value = value


class InvalidFact(LedgerError):
    def __init__(self, value):
        self.value = value


class InvalidFacts(LedgerError):
    def __init__(self, position):
        self.position = position


class InvalidClaim(LedgerError):
    def __init__(self, value):
        self.value = value


class InvalidCommand(LedgerError):
    def __init__(self, value):
        self.value = value


class InvalidHall(LedgerError):
    def __init__(self, value):
        self.value = value


class InvalidDeed(LedgerError):
    def __init__(self, value):
        self.value = value


class InvalidDeeds(LedgerError):
    def __init__(self, position):
        self.position = position


class InvalidRecord(LedgerError):
    def __init__(self, value):
        self.value = value


class InvalidLog(LedgerError):
    def __init__(self, value):
        self.value = value


class InvalidText(LedgerError):
    def __init__(self, line):
        self.line = line


class UnknownId(MissingError):
    def __init__(self, value):
        self.value = value


class UnknownName(MissingError):
    def __init__(self, value):
        self.value = value


class KnownId(StateError):
    def __init__(self, value):
        self.value = value


class NothingToUndo(StateError):
    """No deed is left that can be taken back."""


class CommandFailed(StateError):
    def __init__(self, position):
        self.position = position
