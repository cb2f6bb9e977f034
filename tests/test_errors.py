"""The section "Errors" of the interface: both files, whole."""

import unittest

from lateledger import errors, faults

ERRORS = {
    "LedgerError": """
        InvalidNumber(value) InvalidUnknowns(position) InvalidRows(position) InvalidRow(value) InvalidPlace(value)
        InvalidEnds(value) InvalidValues(value) InvalidSystem(value) InvalidAims(position) InvalidChart(value)
        InvalidAccounts(position) InvalidUnits(position) InvalidEntries(position) InvalidEntry(value)
        InvalidJournal(value) InvalidReport(value) InvalidReports(value) InvalidNumbers(value) InvalidPrices(value)
        InvalidHouse(value) InvalidBundle(value) InvalidLimit(value) InvalidMost(value) InvalidOrder(value)
        InvalidOrders(name) InvalidName(value) InvalidRound(value) InvalidFills(value) InvalidGood(value)
        InvalidOwed(value) InvalidLines(position) InvalidLine(value) InvalidPayments(value) InvalidSet(position)
        InvalidHouses(position) InvalidGoods(position) InvalidConditions(position) InvalidCondition(value)
        InvalidHoldings(value) InvalidHolders(value) InvalidMove(value) InvalidPosition(value) InvalidPair(value)
        InvalidSharing(value) InvalidFutures(value) InvalidQuotes(position) InvalidDeal(value) InvalidWeights(value)
        InvalidSide(value)""",
    "MissingError": "UnknownAccount(value) UnknownUnit(value) UnknownOrder(value) UnknownLine(value) UnknownFuture(value)",
    "StateError": """
        DividedByZero() NoSolution() NoEnd() NameTaken(name) OtherChart() NotTold() DoNotStand() NoMove() WithoutEnd()
        OtherGoods(one,other) NotFair()""",
    "LimitError": "TooMany(what,allowed)",
}
FAULTS = {
    "LedgerError": """
        InvalidDays(value) InvalidDay(value) InvalidWord(value) InvalidFact(value) InvalidFacts(position)
        InvalidClaim(value) InvalidCommand(value) InvalidHall(value) InvalidDeed(value) InvalidDeeds(position)
        InvalidRecord(value) InvalidLog(value) InvalidText(line)""",
    "MissingError": "UnknownId(value) UnknownName(value)",
    "StateError": "KnownId(value) NothingToUndo() CommandFailed(position)",
}
FAMILIES = {"LedgerError": ValueError, "MissingError": LookupError, "StateError": RuntimeError,
            "LimitError": ArithmeticError}


def listed(table):
    """The tuples (family, name, parameters) of all classes of a table."""
    for family, text in table.items():
        for word in text.split():
            name, _, inside = word.rstrip(")").partition("(")
            yield family, name, [part for part in inside.split(",") if part]


class ErrorsTest(unittest.TestCase):
    def test_families(self):
        for family, base in FAMILIES.items():
            self.assertEqual(getattr(errors, family).__bases__, (base,))
            self.assertEqual(getattr(errors, family).__module__, "lateledger.errors")

    def test_each_class_stands_in_its_file_directly_below_its_family(self):
        for module, table in ((errors, ERRORS), (faults, FAULTS)):
            for family, name, _ in listed(table):
                kind = getattr(module, name)
                self.assertEqual(kind.__bases__, (getattr(errors, family),), name)
                self.assertEqual((kind.__name__, kind.__module__), (name, module.__name__))

    def test_no_other_classes(self):
        for module, table, more in ((errors, ERRORS, list(FAMILIES)), (faults, FAULTS, [])):
            told = [name for name, kind in vars(module).items()
                    if isinstance(kind, type) and kind.__module__ == module.__name__]
            self.assertEqual(sorted(told), sorted([name for _, name, _ in listed(table)] + more))

    def test_any_values_are_kept_under_the_names_of_the_interface(self):
        given = [None, True, 7, "x", [1], {"a": 1}, (), object(), int]
        for module, table in ((errors, ERRORS), (faults, FAULTS)):
            for _, name, names in listed(table):
                for at, value in enumerate(given):
                    values = [value, given[at - 1]][:len(names)]
                    for error in (getattr(module, name)(*values), getattr(module, name)(**dict(zip(names, values)))):
                        self.assertEqual(sorted(vars(error)), sorted(names))
                        for key, wanted in zip(names, values):
                            self.assertIs(getattr(error, key), wanted)

    def test_each_is_raised_and_caught_by_its_family(self):
        for module, table in ((errors, ERRORS), (faults, FAULTS)):
            for family, name, names in listed(table):
                with self.assertRaises(FAMILIES[family]) as caught:
                    raise getattr(module, name)(*names)
                self.assertIs(caught.exception.__class__, getattr(module, name))

    def test_parameters_must_be_given(self):
        for module, table in ((errors, ERRORS), (faults, FAULTS)):
            for _, name, names in listed(table):
                if names:
                    with self.assertRaises(TypeError):
                        getattr(module, name)()
                    with self.assertRaises(TypeError):
                        getattr(module, name)(*names, 1)


if __name__ == "__main__":
    unittest.main()
