"""Rows that come to free lots, by exchanges along shortest ways."""

from freelots.gauge import gauge_of


class Stock:
    """Some lots, each of them free in a table of its own, and with no more rows than its size.

    Whether a row can come is found from the row itself, on to the rows that
    can leave a lot for it, from these to those that can leave for them, and
    so on. Only the shortest of all such ways are sure to leave the lots free.
    """

    def __init__(self, tables, sizes, lots):
        self._tables = list(tables)
        self._sizes = list(sizes)
        self._lots = [list(lot) for lot in lots]
        self._gauges = [gauge_of(table, lot) for table, lot in zip(tables, lots)]

    def shown(self):
        """Return the lots."""
        return [list(lot) for lot in self._lots]

    def widen(self, table, size):
        """Put a lot without rows behind the others."""
        self._tables.append(table)
        self._sizes.append(size)
        self._lots.append([])
        self._gauges.append(gauge_of(table, []))

    def settle(self, row):
        """Let a row come that is in no lot; return the lot of the rows that stand in its way.

        This one is empty if the row has come. Else it has the row in it, and
        each lot has just as many rows of it as it can have at all.
        """
        came, end = self._search([row])
        if end is None:
            return sorted(came)
        self._shift(came, end)
        return []

    def fill(self, rows):
        """Let rows come, one behind another; return those that cannot come."""
        # A row that cannot come now cannot come later either.
        return [row for row in rows if len(self.settle(row)) > 0]

    def reached(self, rows):
        """Return the lot of the rows to which a way leads from some rows, none of which can come."""
        return sorted(self._search(rows)[0])

    def stuck(self, rows):
        """Return those of some rows of which not one more can come, be they in lots or not."""
        return [row for row in rows if self._search([row])[1] is None]

    def _search(self, starts):
        """Return for which row each row can leave which place, and the first row that can come, with its place."""
        came = {row: None for row in starts}
        queue = list(starts)
        at = 0
        while at < len(queue):
            row = queue[at]
            at += 1
            for place in range(len(self._lots)):
                leavers = self._leavers(row, place)
                if leavers is None:
                    return came, (row, place)
                for other in leavers:
                    if other not in came:
                        came[other] = (row, place)
                        queue.append(other)
        return came, None

    def _leavers(self, row, place):
        """Return the rows each of which can leave a lot for a row, None if no row has to."""
        lot = self._lots[place]
        if row in lot:
            return []
        makers = self._gauges[place].makers(self._tables[place].row_at(row))
        if makers is not None:
            return list(makers)
        return None if len(lot) < self._sizes[place] else lot

    def _shift(self, came, end):
        """Put a row to its place, the row for which it leaves another place to that one, and so on."""
        changed = {}
        step = end
        while step is not None:
            row, place = step
            self._lots[place] = sorted(self._lots[place] + [row])
            changed[place] = True
            step = came[row]
            if step is not None:
                self._lots[step[1]].remove(row)
        for at in changed:
            self._gauges[at] = gauge_of(self._tables[at], self._lots[at])


def stock_of(table, count):
    """Return so many lots of a table, without rows."""
    return Stock([table] * count, [len(table)] * count, [[]] * count)
