"""What is left of the rows of a table where the rows of a lot, and all that is made of them, are nothing."""

from freelots.gauge import gauge_of
from freelots.rows import Rows


def table_over(table, lot):
    """Return the table of what is left over a lot: its ranks are the ranks together with the lot, less that of this."""
    gauge = gauge_of(table, lot)
    return Rows([gauge.rest(table.row_at(row)) for row in range(len(table))], table.field)
