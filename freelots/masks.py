"""Lots of tables with few rows as numbers: a row stands in the lot of the number that has the digit of 2 ** row."""

from freelots.gauge import Gauge


def rows_of(mask, many):
    """Return the lot of a number."""
    return [row for row in range(many) if mask >> row & 1 == 1]


def all_sums(numbers):
    """Return for each lot, at its number, the sum of the numbers of its rows."""
    sums = [0]
    for number in numbers:
        sums = sums + [total + number for total in sums]
    return sums


def ranks_over(table, gauge, many):
    """Return the ranks of all lots of the first rows, each of them together with the rows of a gauge."""
    if many == 0:
        return [gauge.many()]
    without = ranks_over(table, gauge, many - 1)
    longer = gauge.copied()
    if not longer.take(many - 1, table.row_at(many - 1)):
        return without + without
    return without + ranks_over(table, longer, many - 1)


def all_ranks(table):
    """Return for each lot, at its number, its rank."""
    return ranks_over(table, Gauge(table.width, table.field), len(table))
