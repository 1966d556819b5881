"""Webs: ties between places, as rows of a table."""

from freelots.checks import check_web
from freelots.lots import fewest
from freelots.rows import Rows


def tie_row(places, one, other):
    """Return the row of a tie, zeros alone if it leads from a place to itself."""
    row = [0] * places
    row[one] += 1
    row[other] -= 1
    return row


def web_rows(places, ties):
    """Return the table of a web."""
    check_web(places, 0, ties, True)
    return Rows([tie_row(places, one, other) for one, other in ties])


def woods(places, ties):
    """Return what `fewest` returns for the table of a web."""
    return fewest(web_rows(places, ties))
