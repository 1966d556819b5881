"""Webs: ties between places, as rows of a table."""

from freelots.checks import MOST_PLACES, is_integer, ties_fault
from freelots.errors import BadWeb
from freelots.lots import fewest
from freelots.rows import Rows


def tie_row(places, one, other):
    """Return the row of a tie, zeros alone if it leads from a place to itself."""
    row = [0] * places
    row[one] += 1
    row[other] -= 1
    return row


def web_rows(places, ties):
    """Return the table of a web."""
    if not is_integer(places, 0, MOST_PLACES):
        raise BadWeb(-1)
    fault = ties_fault(ties, places)
    if fault is not None:
        raise BadWeb(fault)
    return Rows([tie_row(places, one, other) for one, other in ties])


def woods(places, ties):
    """Return what `fewest` returns for the table of a web."""
    return fewest(web_rows(places, ties))
