"""The Rules of a sheet: they are called with views."""

from settledreads.lits import truth
from settledreads.views import check_sheet


class Rule:
    """A rule of one sheet; it equals nothing but itself."""

    def __init__(self, sheet, text, lits):
        self._sheet = sheet
        self._text = text
        self.lits = lits

    @property
    def text(self):
        """What stands behind `rule `."""
        return self._text

    def __call__(self, view):
        """True if the view keeps it, False if it breaks it, None if it may yet do either."""
        check_sheet(self._sheet, view)
        return truth(self.lits, view.worths)
