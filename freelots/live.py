"""Keepers: free lots that are kept while rows come and go."""

from freelots.checks import MOST_LOTS, check_count, is_integer
from freelots.errors import BadCount, NoDeed, NoRow, TooMany
from freelots.ways import Stock


def places(lots):
    """Return a dict from each row of some lots to the integer of its lot."""
    return {row: place for place, lot in enumerate(lots) for row in lot}


def moved(before, after):
    """Return the rows that are in another lot behind a deed than ahead of it, with their lots."""
    old = places(before)
    new = places(after)
    return {row: new[row] for row in sorted(new) if old.get(row) != new[row]}


class Keeper:
    """A table and some free lots, in which some of its rows are."""

    def __init__(self, table, count):
        check_count(count)
        self._table = table
        # The lots behind each deed, and which of them are the lots now.
        self._states = [[[] for place in range(count)]]
        self._now = 0

    @property
    def table(self):
        """The table."""
        return self._table

    def lots(self):
        """Return the list of the lots."""
        return [list(lot) for lot in self._states[self._now]]

    def come(self, row):
        """Let a row come; return it and all rows that have changed their lot for it, with their lots."""
        lots = self.lots()
        if not is_integer(row, 0, len(self._table) - 1) or row in places(lots):
            raise NoRow(row)
        return self._settle(lots, [row])

    def go(self, row):
        """Let a row go; return the integer of the lot in which it was."""
        lots = self.lots()
        if not is_integer(row, 0, len(self._table) - 1) or row not in places(lots):
            raise NoRow(row)
        place = places(lots)[row]
        lots[place].remove(row)
        self._keep(lots)
        return place

    def more(self):
        """Open a lot behind the others; return its integer."""
        lots = self.lots()
        if len(lots) == MOST_LOTS:
            raise BadCount(MOST_LOTS + 1)
        self._keep(lots + [[]])
        return len(lots)

    def less(self, place):
        """Close a lot; return all rows that are in another lot then, with their lots."""
        lots = self.lots()
        if not is_integer(place, 0, len(lots) - 1):
            raise BadCount(place)
        rows = lots.pop(place)
        return self._settle(lots, rows)

    def undo(self):
        """Undo what was done last."""
        if self._now == 0:
            raise NoDeed()
        self._now -= 1

    def again(self):
        """Do again what was undone last."""
        if self._now == len(self._states) - 1:
            raise NoDeed()
        self._now += 1

    def _settle(self, lots, rows):
        """Let rows come to lots, one behind another; return all rows that are in another lot then."""
        count = len(lots)
        stock = Stock([self._table] * count, [len(self._table)] * count, lots)
        for row in rows:
            lot = stock.settle(row)
            if len(lot) > 0:
                raise TooMany(lot)
        after = stock.shown()
        self._keep(after)
        return moved(lots, after)

    def _keep(self, lots):
        """Make these the lots now; what was undone cannot be done again."""
        del self._states[self._now + 1:]
        self._states.append(lots)
        self._now += 1
