"""Rows that are free by two tables at once, and one row of each class."""

from freelots.checks import check_alike, is_list, is_lot
from freelots.errors import BadClass
from freelots.gauge import gauge_of
from freelots.meets import all_meets


def common(one, other):
    """Return a common lot with as many indexes as there can be, and a lot whose ranks show it."""
    check_alike(one, other)
    many = len(one)
    meet = all_meets(one, other, [0] * many)[-1]
    reachable = meet.reachable()
    return meet.common_lot(), [row for row in range(many) if row not in reachable]


def check_classes(table, classes):
    """Raise BadClass if these are no classes of the rows of a table."""
    if not is_list(classes):
        raise BadClass(0)
    for number, lot in enumerate(classes):
        if not is_lot(lot, len(table)):
            raise BadClass(number)


def search(table, classes, owners, start):
    """Find the shortest way for a class to get a row, the row of each class on it going to the one ahead of it.

    Return for which class, and by which of its rows, each class can lose its
    own row, and the class and the row where the way ends, None if there is
    none.
    """
    gauge = gauge_of(table, sorted(owners))
    came = {start: None}
    queue = [start]
    at = 0
    while at < len(queue):
        number = queue[at]
        at += 1
        for row in classes[number]:
            makers = gauge.makers(table.row_at(row))
            if makers is None:
                return came, (number, row)
            for maker in makers:
                if owners[maker] not in came:
                    came[owners[maker]] = (number, row)
                    queue.append(owners[maker])
    return came, None


def shifted(came, end, rows):
    """Return the row of each class as they are when a class has got one along a way."""
    after = dict(rows)
    step = end
    while step is not None:
        number, row = step
        after[number] = row
        step = came[number]
    return after


def chosen(table, classes):
    """Return a row of each class, together a free lot, or classes whose rows have too low a rank for it."""
    check_classes(table, classes)
    rows = {}
    for number in range(len(classes)):
        owners = {row: owner for owner, row in rows.items()}
        came, end = search(table, classes, owners, number)
        if end is None:
            return "classes", sorted(came)
        rows = shifted(came, end, rows)
    return "rows", [rows[number] for number in range(len(classes))]
