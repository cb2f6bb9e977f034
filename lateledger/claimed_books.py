"""Claims of books: whether reports are told by kept ones, and whether numbers stand."""

from lateledger.accounts import Chart
from lateledger.journals import Journal, is_entry
from lateledger.ratios import ratio_of
from lateledger.reports import are_numbers_for, are_weights, difference, is_difference, is_told, value, weights
from lateledger.weighing import MOST_REPORTS, are_reports, is_report
from lateledger.wholes import bar, do_stand, is_bar, journal_with
from lateledger.words import is_list

BOOK_WORDS = ("told", "apart", "stand", "off")


class BookClaim:
    """A claim of one of these words. It never changes."""

    def __init__(self, word, about):
        self._word = word
        self._about = about

    def fits(self):
        """Whether the parts are such as the word is about; only then the others are asked."""
        if len(self._about) != 3 or not isinstance(self._about[0], Chart):
            return False
        chart, kept, last = self._about
        if not are_reports(chart, kept) or len(kept) > MOST_REPORTS:
            return False
        return is_report(chart, last) if self._word in ("told", "apart") else are_numbers_for(kept, last)

    def holds(self):
        """Whether it is true."""
        chart, kept, last = self._about
        if self._word in ("told", "apart"):
            return is_told(chart, kept, last) == (self._word == "told")
        return do_stand(chart, kept, last) == (self._word == "stand")

    def paper(self):
        """A paper, where it is true."""
        chart, kept, last = self._about
        if self._word == "told":
            return weights(chart, kept, last)
        if self._word == "apart":
            return difference(chart, kept, last)
        if self._word == "off":
            return bar(chart, kept, last)
        return journal_with(chart, kept, last).entries()

    def judges(self, paper):
        """Whether any value is a paper of it."""
        chart, kept, last = self._about
        if self._word == "told":
            return are_weights(chart, kept, last, paper)
        if self._word == "apart":
            return is_difference(chart, kept, last, paper)
        if self._word == "off":
            return is_bar(chart, kept, last, paper)
        return self._do_entries_stand(paper)

    def _do_entries_stand(self, entries):
        chart, kept, numbers = self._about
        if not is_list(entries) or len(entries) > 1 or not all([is_entry(chart, entry) for entry in entries]):
            return False
        journal = Journal(chart, entries)
        return all([value(journal, report) == ratio_of(numbers[name]) for name, report in kept.items()])
