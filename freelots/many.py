"""Rows that have to stand in free lots many times over."""

from freelots.checks import is_integer, is_list
from freelots.errors import BadCount, BadTimes
from freelots.masks import all_ranks, all_sums, rows_of
from freelots.ways import stock_of


def is_times(value):
    """Tell whether a value is an integer from 0 to 10 ** 29, as times and numbers of lots are."""
    return is_integer(value, 0, 10 ** 29)


def check_times(times, many):
    """Raise BadTimes if these are no times of so many rows."""
    if not is_list(times) or len(times) != many:
        raise BadTimes(0)
    for index, number in enumerate(times):
        if not is_times(number):
            raise BadTimes(index)


def least_number(ranks, times):
    """Return the least number of lots in which rows can stand so many times, none of them without a rank."""
    return max([0] + [-(-total // rank) for total, rank in zip(all_sums(times), ranks) if rank > 0])


def fewest_many(table, times):
    """Return the least number of lots with which it can be done, None if there is none."""
    check_times(times, len(table))
    if any([times[row] > 0 for row in table.hull([])]):
        return None
    return least_number(all_ranks(table), times)


def tight_lot(ranks, times, count):
    """Return the number of a free lot that can be taken ahead of others, if all can be done with so many lots.

    A lot of rows is tight if their times come to the most that so many lots
    can hold of them; then each lot that is taken has to hold as many of them
    as it can. A free lot that does so for all tight lots at once has the most
    rows, if each row counts as often as it stands in a tight lot.
    """
    many = len(times)
    worth = [0] * many
    for mask, total in enumerate(all_sums(times)):
        if total == count * ranks[mask]:
            for row in rows_of(mask, many):
                worth[row] += 1
    found = 0
    for _, row in sorted([(-worth[row], row) for row in range(many) if times[row] > 0]):
        if ranks[found + (1 << row)] > ranks[found]:
            found += 1 << row
    return rows_of(found, many)


def longest(ranks, times, count, lot):
    """Return the greatest number of times that a lot can be taken ahead of others, as a fraction."""
    held = all_sums([1 if row in lot else 0 for row in range(len(times))])
    best, bottom = min([times[row] for row in lot]), 1
    for total, rank, part in zip(all_sums(times), ranks, held):
        # Each time that the lot is taken, so much less is left that the other lots can hold of these rows.
        if (count * rank - total) * bottom < best * (rank - part):
            best, bottom = count * rank - total, rank - part
    return best, bottom


def shares_of(ranks, times, count):
    """Return free lots and how often each of them is to be taken, as fractions: triples (lot, top, bottom).

    Behind each lot one more tight lot, or one more row without times, is
    there, so that there are at most as many lots as rows, and one.
    """
    shares = []
    scale = 1
    while any([number > 0 for number in times]):
        lot = tight_lot(ranks, times, count)
        top, bottom = longest(ranks, times, count, lot)
        # All numbers are told in parts of which ever more make one.
        scale = scale * bottom
        times = [number * bottom - (top if row in lot else 0) for row, number in enumerate(times)]
        count = count * bottom - top
        shares.append((lot, top, scale))
    return shares


def settled(table, times, count):
    """Return so many free lots in which the rows stand so many times."""
    stock = stock_of(table, count)
    stock.fill([row for row, number in enumerate(times) for _ in range(number)])
    return stock.shown()


def whole_numbers(table, ranks, times, count):
    """Return a dict from free lots, as tuples, to the numbers of times that they are taken.

    The fractions are taken without what is broken of them. What is left over
    can be done with at most as many lots as there are rows.
    """
    numbers = {tuple(lot): top // bottom for lot, top, bottom in shares_of(ranks, times, count)}
    left = list(times)
    for lot in numbers:
        for row in lot:
            left[row] -= numbers[lot]
    for lot in settled(table, left, least_number(ranks, left)):
        numbers[tuple(lot)] = numbers.get(tuple(lot), 0) + 1
    return numbers


def parted_many(table, times, count):
    """Return free lots, each with the number of times that it is taken, or a lot whose times are too many."""
    check_times(times, len(table))
    if not is_times(count):
        raise BadCount(count)
    ranks = all_ranks(table)
    for mask, total in enumerate(all_sums(times)):
        if total > count * ranks[mask]:
            return "lot", rows_of(mask, len(table))
    numbers = whole_numbers(table, ranks, times, count)
    return "lots", sorted([(list(lot), number) for lot, number in numbers.items() if number > 0])
