"""Bases: free lots that make all rows, apart from each other and exchanged for each other."""

from freelots.checks import check_count, is_lot
from freelots.errors import NotBase
from freelots.gauge import gauge_of
from freelots.ways import stock_of


def whole_rank(table):
    """Return the rank of the lot of all rows."""
    return table.rank(list(range(len(table))))


def based(table, count, rows):
    """Return what `apart` returns, with bases to which all rows came in this order."""
    stock = stock_of(table, count)
    left = stock.fill(rows)
    lots = stock.shown()
    if sum([len(lot) for lot in lots]) == count * whole_rank(table):
        return "bases", lots
    return "lot", stock.reached(left)


def apart(table, count):
    """Return so many bases, each two apart, or a lot that leaves too few rows for them."""
    check_count(count)
    return based(table, count, list(range(len(table))))


def most_apart(table):
    """Return the greatest number of bases, each two apart, None if the rank of all rows is 0."""
    rank = whole_rank(table)
    if rank == 0:
        return None
    # There are so many as `low`, and not so many as `high`.
    low = 0
    high = len(table) // rank + 1
    while high - low > 1:
        middle = (low + high) // 2
        if apart(table, middle)[0] == "bases":
            low = middle
        else:
            high = middle
    return low


def check_base(table, lot):
    """Raise NotBase if this is no base of a table."""
    if not is_lot(lot, len(table)) or len(lot) != whole_rank(table) or not table.is_free(lot):
        raise NotBase(lot)


def only_in(one, other):
    """Return the rows that the first lot has and the other one has not."""
    return [row for row in one if row not in other]


def comer(table, base, row, others):
    """Return the first of some rows that can come into a base if a row leaves it."""
    gauge = gauge_of(table, base)
    for other in others:
        if row in gauge.makers(table.row_at(other)):
            return other
    return None


def exchanges(table, one, other):
    """Return the exchanges, in order, of a way from a base to another one, along bases."""
    check_base(table, one)
    check_base(table, other)
    steps = []
    base = list(one)
    for row in only_in(one, other):
        came = comer(table, base, row, only_in(other, base))
        base = only_in(base, [row]) + [came]
        steps.append((row, came))
    return steps


def find_partner(row, leavers, found, tried):
    """Find a partner for a row that comes in, if need be by other partners for those that have one; tell whether."""
    for leaver in leavers[row]:
        if leaver in tried:
            continue
        tried[leaver] = True
        if leaver not in found or find_partner(found[leaver], leavers, found, tried):
            found[leaver] = row
            return True
    return False


def partners(table, one, other):
    """Return a dict of partners, from each row that just the first base has."""
    check_base(table, one)
    check_base(table, other)
    gauge = gauge_of(table, one)
    leaving = only_in(one, other)
    coming = only_in(other, one)
    makers = {row: gauge.makers(table.row_at(row)) for row in coming}
    leavers = {row: [leaver for leaver in leaving if leaver in makers[row]] for row in coming}
    found = {}
    for row in coming:
        find_partner(row, leavers, found, {})
    return {row: found[row] for row in leaving}
