"""A shelf: a row and a history of it, which change by operations that can be taken back."""

from putinside.changes import check_take, steps
from putinside.errors import Closed, Duplicate, Full, NoGap, NoState
from putinside.histories import count_histories, gap_of
from putinside.limits import MOST_BOXES
from putinside.nestings import nesting_after
from putinside.rows import is_gap, moves


def with_gap(row, history, gap):
    """A new HISTORY that closes the gap, too, at its end."""
    if not is_gap(row, gap):
        raise NoGap(gap)
    if gap in history:
        raise Closed(gap)
    return history + [gap]


class Shelf:
    """A ROW and a HISTORY of it. Both are replaced by new ones, never changed themselves."""

    def __init__(self, row):
        self._row = tuple(row)
        self._history = []
        # The row and the history before each of the operations in effect.
        self._before = []
        self._log = []

    def _put_in_effect(self, row, history):
        """Put an operation into effect."""
        self._before.append((self._row, self._history))
        self._row = row
        self._history = history

    def close(self, gap):
        """Close a gap. Returns the pair of the box that is put in and the one into which it is put."""
        self._log.append(("in", "close"))
        try:
            self._put_in_effect(self._row, with_gap(self._row, self._history, gap))
            return moves(self._row, self._history)[-1]
        finally:
            self._log.append(("out", "close"))

    def close_all(self, history):
        """Close the gaps of a list in this order, as one operation."""
        self._log.append(("in", "close_all"))
        try:
            longer = self._history
            for gap in history:
                longer = with_gap(self._row, longer, gap)
            self._put_in_effect(self._row, longer)
        finally:
            self._log.append(("out", "close_all"))

    def take_out(self, place):
        """Take a box out. Returns the gap that is open again."""
        self._log.append(("in", "take_out"))
        try:
            nesting = self.nesting()
            check_take(self._row, nesting, place)
            opened = gap_of(self._row, nesting, place)
            self._put_in_effect(self._row, [gap for gap in self._history if gap != opened])
            return opened
        finally:
            self._log.append(("out", "take_out"))

    def add(self, size):
        """Put one more box at the right end of the row. Returns its place."""
        self._log.append(("in", "add"))
        try:
            place = len(self._row)
            if size in self._row:
                raise Duplicate(size)
            if place >= MOST_BOXES:
                raise Full(MOST_BOXES)
            self._put_in_effect(self._row + (size,), self._history)
            return place
        finally:
            self._log.append(("out", "add"))

    def undo(self):
        """Take back the last operation in effect. Returns whether there was one."""
        self._log.append(("in", "undo"))
        try:
            if not self._before:
                return False
            self._row, self._history = self._before.pop()
            return True
        finally:
            self._log.append(("out", "undo"))

    def row(self):
        """The ROW."""
        return self._row

    def history(self):
        """The HISTORY."""
        return list(self._history)

    def nesting(self):
        """The NESTING."""
        return nesting_after(self._row, self._history)

    def open_gaps(self):
        """The ascending list of the open gaps."""
        return [gap for gap in range(len(self._row) - 1) if gap not in self._history]

    def steps(self):
        """The ascending list of all STEPs that are possible."""
        return steps(self._row, self.nesting())

    def count(self):
        """How many HISTORYs lead to the NESTING."""
        return count_histories(self._row, self.nesting())

    def operations(self):
        """How many operations are in effect."""
        return len(self._before)

    def as_of(self, many):
        """A new Shelf in the state after the first many of the operations in effect."""
        if not 0 <= many <= len(self._before):
            raise NoState(many)
        states = self._before + [(self._row, self._history)]
        shelf = Shelf(self._row)
        shelf._row, shelf._history = states[many]
        shelf._before = states[:many]
        return shelf

    def twin(self):
        """A new Shelf in the same state."""
        return self.as_of(len(self._before))

    def log(self):
        """The list of the pairs ("in", name) and ("out", name) for all calls of operations."""
        return list(self._log)

    def __eq__(self, other):
        return isinstance(other, Shelf) and self._row == other._row and self._history == other._history

    def __len__(self):
        return len(self._row)

    def __repr__(self):
        return f"Shelf({len(self._row)} boxes, {len(self._row) - len(self._history)} outer)"
