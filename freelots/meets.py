"""Lots that are free by two tables at once, and how exchanges make them longer by one row."""

from freelots.gauge import gauge_of


def leavers_of(table, lot):
    """Return for each row that is not in a free lot those each of which can leave it for this row.

    It is None for a row that can come without any leaving.
    """
    gauge = gauge_of(table, lot)
    found = {}
    for row in range(len(table)):
        if row not in lot:
            makers = gauge.makers(table.row_at(row))
            found[row] = None if makers is None else list(makers)
    return found


def shortest(starts, arcs):
    """Return what the shortest ways from some rows lead to, and the row ahead of each row on such a way.

    Arcs are triples of two rows and a length. The length of a way, and behind
    it the number of its arcs, are told for each row to which one leads; no
    way round has a length below 0.
    """
    best = {row: (0, 0) for row in starts}
    ahead = {row: None for row in starts}
    changed = True
    while changed:
        changed = False
        for tail, head, length in arcs:
            if tail not in best:
                continue
            way = (best[tail][0] + length, best[tail][1] + 1)
            if head not in best or way < best[head]:
                best[head] = way
                ahead[head] = tail
                changed = True
    return best, ahead


class Meet:
    """A lot that is free by two tables, a dearest one of its size, and its exchanges.

    An arc leads from a row of the lot to each row that can come for it by the
    one table, and to a row of the lot from each row that can come for it by
    the other one. The price that is lost along a way is its length; only
    those that lose the least, with as few arcs as can be, are sure to leave
    the lot free by both tables.
    """

    def __init__(self, one, other, lot, prices):
        self._lot = lot
        self._prices = prices
        self._ones = leavers_of(one, lot)
        self._others = leavers_of(other, lot)
        self._arcs = self._found_arcs()
        starts = [row for row, leavers in self._ones.items() if leavers is None]
        self._best, self._ahead = shortest(starts, self._arcs)

    def _found_arcs(self):
        """Return all arcs, with their lengths."""
        prices = self._prices
        arcs = []
        for row, leavers in self._ones.items():
            for leaver in self._lot if leavers is None else leavers:
                arcs.append((leaver, row, 0))
        for row, leavers in self._others.items():
            for leaver in self._lot if leavers is None else leavers:
                arcs.append((row, leaver, prices[leaver] - prices[row]))
        return arcs

    def common_lot(self):
        """Return the lot."""
        return list(self._lot)

    def reachable(self):
        """Return the rows to which ways lead from those that can come by the one table without any leaving."""
        return sorted(self._best)

    def longer(self):
        """Return a dearest common lot with one row more, None if there is none."""
        ends = [row for row, leavers in self._others.items() if leavers is None and row in self._best]
        if len(ends) == 0:
            return None
        row = min([(self._best[end][0] - self._prices[end], self._best[end][1], end) for end in ends])[2]
        way = []
        while row is not None:
            way.append(row)
            row = self._ahead[row]
        stay = [one for one in self._lot if one not in way]
        come = [one for one in way if one not in self._lot]
        return sorted(stay + come)

    def price_split(self):
        """Return the pairs of integers that split the prices and show the lot."""
        best, _ = shortest(list(range(len(self._prices))), self._arcs)
        return [(best[row][0], price - best[row][0]) for row, price in enumerate(self._prices)]


def all_meets(one, other, prices):
    """Return a meet of two tables for each size of their common lots, from 0 on."""
    meets = []
    lot = []
    while lot is not None:
        meet = Meet(one, other, lot, prices)
        meets.append(meet)
        lot = meet.longer()
    return meets
