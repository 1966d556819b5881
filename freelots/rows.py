"""Tables: rows of integers over the fractions, or modulo a small prime."""

from math import gcd

from freelots.checks import check_lot, is_field, is_integer, rows_fault
from freelots.errors import BadField, BadRows, NoRow
from freelots.gauge import Gauge, gauge_of, inverse
from freelots.texts import read_rows, write_rows


def told(row, field):
    """Return the integers of a row as a table of this field tells them."""
    return tuple([number % field if field else int(number) for number in row])


def divisor(numbers):
    """Return the greatest number that divides all of them."""
    greatest = 0
    for number in numbers:
        greatest = gcd(greatest, number)
    return greatest


def plain_relation(shares, field):
    """Return the one relation, with its rows in ascending order, that is a multiple of these shares."""
    rows = sorted(shares)
    first = shares[rows[0]]
    if field:
        factor = inverse(first, field)
        return {row: shares[row] * factor % field for row in rows}
    size = divisor([shares[row] for row in rows])
    if first < 0:
        size = -size
    return {row: shares[row] // size for row in rows}


class Rows:
    """A table, which never changes."""

    def __init__(self, rows, field=0):
        if not is_field(field):
            raise BadField(field)
        fault = rows_fault(rows)
        if fault is not None:
            raise BadRows(fault)
        self._field = int(field)
        self._rows = tuple([told(row, field) for row in rows])
        self._width = len(rows[0]) if len(rows) > 0 else 0

    @property
    def field(self):
        """The field: 0, or the prime."""
        return self._field

    @property
    def width(self):
        """The number of integers of each row, 0 if there are no rows."""
        return self._width

    def __len__(self):
        return len(self._rows)

    def __eq__(self, other):
        return isinstance(other, Rows) and self._field == other._field and self._rows == other._rows

    def row_at(self, row):
        """Return the tuple of the integers of a row."""
        if not is_integer(row, 0, len(self._rows) - 1):
            raise NoRow(row)
        return self._rows[row]

    def rank(self, lot):
        """Return the number of rows of a greatest free lot within a lot."""
        check_lot(lot, len(self._rows))
        return gauge_of(self, lot).many()

    def is_free(self, lot):
        """Tell whether no row of a lot is spare in it."""
        check_lot(lot, len(self._rows))
        return gauge_of(self, lot).many() == len(lot)

    def hull(self, lot):
        """Return the lot of all rows that are made of a lot."""
        check_lot(lot, len(self._rows))
        gauge = gauge_of(self, lot)
        return [row for row, numbers in enumerate(self._rows) if gauge.makers(numbers) is not None]

    def ring(self, lot):
        """Return the relation of a ring within a lot, None if the lot is free."""
        check_lot(lot, len(self._rows))
        gauge = Gauge(self._width, self._field)
        for row in lot:
            if not gauge.take(row, self._rows[row]):
                shares = gauge.makers(self._rows[row])
                shares[row] = -gauge.scale
                return plain_relation(shares, self._field)
        return None

    def text(self):
        """Return the text of the table."""
        return write_rows(self._rows, self._field)

    @classmethod
    def parse(cls, text):
        """Return the table that has a text."""
        rows, field = read_rows(text)
        return cls(rows, field)
