"""Rows with a history."""

from drillrow.calls import run_drill
from drillrow.checks import check_colour, check_row
from drillrow.cycles import repeat_drill
from drillrow.errors import BadIndex


class Parade:
    """A row with a history: each change is a step that can be undone."""

    def __init__(self, row):
        check_row(row)
        self._row = row
        # The row before each step that can be undone, the last step at the end.
        self._past = []

    def __len__(self):
        return len(self._row)

    def __eq__(self, other):
        return isinstance(other, Parade) and self._row == other._row

    def __ne__(self, other):
        return not self == other

    def row(self):
        """Return the row."""
        return self._row

    def steps(self):
        """Return how many steps can be undone."""
        return len(self._past)

    def join(self, colour):
        """Add a person at the end."""
        check_colour(colour)
        self._step_to(self._row + colour)

    def leave(self, index):
        """Remove the person at an index."""
        if not 0 <= index < len(self._row):
            raise BadIndex(index)
        self._step_to(self._row[:index] + self._row[index + 1:])

    def call(self, kind, source, target):
        """Apply one call."""
        self._step_to(run_drill([(kind, source, target)], self._row))

    def drill(self, calls, times):
        """Repeat a drill; without runs it is a step too."""
        self._step_to(repeat_drill(calls, self._row, times))

    def undo(self):
        """Go back to the row before the last step."""
        if not self._past:
            raise BadIndex(None)
        self._row = self._past.pop()

    def _step_to(self, row):
        """Make a step to this row."""
        self._past.append(self._row)
        self._row = row
