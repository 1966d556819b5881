"""Tests of what callers pass."""

from freelots.errors import BadCount, BadLot, BadPrices, BadWeb, UnlikeRows

FIELDS = (0, 2, 3, 5, 7, 11, 13)
MOST_ROWS = 60
MOST_WIDTH = 12
MOST_LOTS = 60
MOST_PLACES = 12
MOST_TIES = 60


def is_whole(value):
    """Tell whether a value is an integer; True and False are none."""
    return isinstance(value, int) and not isinstance(value, bool)


def is_integer(value, low, high):
    """Tell whether a value is an integer from `low` to `high`."""
    return is_whole(value) and low <= value <= high


def is_list(value):
    """Tell whether a value is a list or a tuple."""
    return isinstance(value, (list, tuple))


def is_field(value):
    """Tell whether a value is a field that a table can have."""
    return is_whole(value) and value in FIELDS


def is_row(value):
    """Tell whether a value is a list of integers, no more than a row may have."""
    return is_list(value) and len(value) <= MOST_WIDTH and all([is_whole(number) for number in value])


def rows_fault(rows):
    """Return the index that tells why these are no rows of a table; None if they are."""
    if not is_list(rows):
        return 0
    for index, row in enumerate(rows):
        if not is_row(row) or len(row) != len(rows[0]):
            return index
    return MOST_ROWS if len(rows) > MOST_ROWS else None


def lot_fault(lot, many):
    """Return the index of the first thing for which this is no lot of so many rows; None if it is one."""
    if not is_list(lot):
        return 0
    least = 0
    for place, row in enumerate(lot):
        if not is_integer(row, least, many - 1):
            return place
        least = row + 1
    return None


def is_lot(lot, many):
    """Tell whether this is a lot of so many rows."""
    return lot_fault(lot, many) is None


def check_lot(lot, many):
    """Raise BadLot if this is no lot of so many rows."""
    fault = lot_fault(lot, many)
    if fault is not None:
        raise BadLot(fault)


def check_count(count):
    """Raise BadCount if this is no number of lots."""
    if not is_integer(count, 0, MOST_LOTS):
        raise BadCount(count)


def is_tie(value, places):
    """Tell whether a value is a pair of places, of which there are so many."""
    return is_list(value) and len(value) == 2 and all([is_integer(place, 0, places - 1) for place in value])


def ties_fault(ties, places, loops):
    """Return the index that tells why these are no ties between so many places; None if they are.

    A tie from a place to itself is one only where there may be loops.
    """
    if not is_list(ties):
        return 0
    for index, tie in enumerate(ties):
        if not is_tie(tie, places) or (tie[0] == tie[1] and not loops):
            return index
    return MOST_TIES if len(ties) > MOST_TIES else None


def check_web(places, least, ties, loops):
    """Raise BadWeb if this is no number of places, from the least on, or these are no ties between them."""
    if not is_integer(places, least, MOST_PLACES):
        raise BadWeb(-1)
    fault = ties_fault(ties, places, loops)
    if fault is not None:
        raise BadWeb(fault)


def check_prices(prices, many):
    """Raise BadPrices if these are no prices of so many things."""
    if not is_list(prices) or len(prices) != many:
        raise BadPrices(0)
    for index, price in enumerate(prices):
        if not is_whole(price):
            raise BadPrices(index)


def check_alike(one, other):
    """Raise UnlikeRows if two tables do not have as many rows."""
    if len(one) != len(other):
        raise UnlikeRows()
