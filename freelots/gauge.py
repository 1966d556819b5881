"""Rows measured against the rows of a free lot, by Cramer's rule and so without fractions."""


def inverse(number, prime):
    """Return the integer below a prime by which a number that it does not divide becomes 1."""
    high, low = prime, number % prime
    # Both are `number` times their factors, as the prime counts.
    above, below = 0, 1
    while low > 0:
        times = high // low
        high, low = low, high - times * low
        above, below = below, above - times * below
    return above % prime


class Gauge:
    """A free lot, in which unit rows stand for the rows that it lacks to make all rows.

    The lot and the unit rows are as many as a row has integers. The columns
    are their adjugate: a row times a column is the share that the row at the
    place of this column has in `scale` times the row.
    """

    def __init__(self, width, field):
        self.scale = 1
        self._prime = field
        self._columns = [[1 if at == place else 0 for at in range(width)] for place in range(width)]
        # The index of the row of the lot at each place, None where a unit row stands.
        self._held = [None] * width

    def many(self):
        """Return the number of rows of the lot."""
        return len([row for row in self._held if row is not None])

    def copied(self):
        """Return a gauge of the same lot."""
        other = Gauge(len(self._held), self._prime)
        other.scale = self.scale
        other._columns = list(self._columns)
        other._held = list(self._held)
        return other

    def _shares(self, numbers):
        """Return the share that the row at each place has in `scale` times the row with these numbers."""
        sums = [sum([one * two for one, two in zip(numbers, column)]) for column in self._columns]
        return [share % self._prime for share in sums] if self._prime else sums

    def _lacking(self, shares):
        """Return the first place at which a unit row has a share, None if the lot makes the row."""
        for place, share in enumerate(shares):
            if share != 0 and self._held[place] is None:
                return place
        return None

    def take(self, row, numbers):
        """Put a row with these numbers into the lot, unless the lot makes it; tell whether it was put in."""
        shares = self._shares(numbers)
        place = self._lacking(shares)
        if place is None:
            return False
        pivot = self._columns[place]
        for at, share in enumerate(shares):
            if at != place:
                self._columns[at] = self._turned(self._columns[at], share, pivot, shares[place])
        self.scale = shares[place]
        self._held[place] = row
        return True

    def _turned(self, column, share, pivot, size):
        """Return a column as it is when the row of the pivot's place is another one."""
        crossed = [size * one - share * two for one, two in zip(column, pivot)]
        if self._prime:
            factor = inverse(self.scale, self._prime)
            return [number * factor % self._prime for number in crossed]
        # Each new column holds minors of the rows, so that nothing is left over here.
        return [number // self.scale for number in crossed]

    def makers(self, numbers):
        """Return the shares that rows of the lot have in `scale` times the row with these numbers.

        They are told as a dict from those that have one, None if the lot does not make the row.
        """
        shares = self._shares(numbers)
        if self._lacking(shares) is not None:
            return None
        return {row: share for row, share in zip(self._held, shares) if share != 0}

    def rest(self, numbers):
        """Return the shares of the unit rows in `scale` times a row: zeros alone just if the lot makes it."""
        return [share for row, share in zip(self._held, self._shares(numbers)) if row is None]


def gauge_of(table, lot):
    """Return the gauge of the rows of a lot that are not made of rows ahead of them in it."""
    gauge = Gauge(table.width, table.field)
    for row in lot:
        gauge.take(row, table.row_at(row))
    return gauge
