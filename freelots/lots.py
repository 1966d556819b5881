"""Partings of a table into free lots, and placings of things in several tables."""

from freelots.checks import check_count, check_lot, is_integer, is_list, is_lot
from freelots.errors import BadSizes, BadTables
from freelots.rows import Rows
from freelots.ways import Stock, stock_of

MOST_TABLES = 12
MOST_SIZE = 60


def parted(table, count):
    """Return a parting of a table into some lots, or a lot that is too many for them."""
    check_count(count)
    stock = stock_of(table, count)
    for row in range(len(table)):
        lot = stock.settle(row)
        if len(lot) > 0:
            return "many", lot
    return "lots", stock.shown()


def are_lots(lots, count, many):
    """Tell whether these are so many lots of so many rows, and no row is in two of them."""
    if not is_list(lots) or len(lots) != count or not all([is_lot(lot, many) for lot in lots]):
        return False
    seen = set()
    for lot in lots:
        for row in lot:
            if row in seen:
                return False
            seen.add(row)
    return True


def is_parting(table, count, lots):
    """Tell whether a list of lists of integers is a parting of a table into some lots."""
    check_count(count)
    many = len(table)
    if not are_lots(lots, count, many) or sum([len(lot) for lot in lots]) != many:
        return False
    return all([table.is_free(lot) for lot in lots])


def is_many(table, count, lot):
    """Tell whether a list of integers is a lot of a table that is too many for some lots."""
    check_count(count)
    return is_lot(lot, len(table)) and len(lot) > count * table.rank(lot)


def fewest(table):
    """Return a parting into as few lots as can be, and a lot that is too many for one less."""
    noughts = table.hull([])
    if len(noughts) > 0:
        return "many", noughts
    stock = Stock([], [], [])
    many = []
    for row in range(len(table)):
        lot = stock.settle(row)
        if len(lot) > 0:
            many = lot
            stock.widen(table, len(table))
            stock.settle(row)
    return "lots", stock.shown(), many


def check_tables(tables):
    """Raise BadTables if these are no tables of the same things."""
    if not is_list(tables) or not 1 <= len(tables) <= MOST_TABLES:
        raise BadTables(0)
    for place, table in enumerate(tables):
        if not isinstance(table, Rows) or len(table) != len(tables[0]):
            raise BadTables(place)


def check_sizes(tables, sizes):
    """Raise BadSizes if these are no sizes, one for each table."""
    if not is_list(sizes) or len(sizes) != len(tables):
        raise BadSizes(0)
    for place, size in enumerate(sizes):
        if not is_integer(size, 0, MOST_SIZE):
            raise BadSizes(place)


def placed(tables, sizes):
    """Return a placing with as many things as can be, and a lot of things with the least bound."""
    check_tables(tables)
    check_sizes(tables, sizes)
    stock = Stock(tables, sizes, [[]] * len(tables))
    left = stock.fill(list(range(len(tables[0]))))
    return stock.shown(), stock.reached(left)


def is_placing(tables, sizes, lots):
    """Tell whether a list of lists of integers is a placing."""
    check_tables(tables)
    check_sizes(tables, sizes)
    if not are_lots(lots, len(tables), len(tables[0])):
        return False
    if any([len(lot) > size for lot, size in zip(lots, sizes)]):
        return False
    return all([table.is_free(lot) for table, lot in zip(tables, lots)])


def bound(tables, sizes, lot):
    """Return the bound of a lot of things."""
    check_tables(tables)
    check_sizes(tables, sizes)
    many = len(tables[0])
    check_lot(lot, many)
    held = [min(size, table.rank(lot)) for table, size in zip(tables, sizes)]
    return many - len(lot) + sum(held)
