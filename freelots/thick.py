"""Thickness: the rows that stand thickest, layer by layer, and papers that show it."""

from math import gcd

from freelots.checks import is_list, is_lot
from freelots.errors import NoughtRow
from freelots.lots import are_lots
from freelots.over import table_over
from freelots.ways import stock_of


def check_noughts(table):
    """Raise NoughtRow if a table has a nought row."""
    noughts = table.hull([])
    if len(noughts) > 0:
        raise NoughtRow(noughts[0])


def thickness_of(table, lot):
    """Return the thickness of a lot that has a rank, in lowest terms."""
    rank = table.rank(lot)
    part = gcd(len(lot), rank)
    return len(lot) // part, rank // part


def thickest_of(table, rows):
    """Return the thickest lot of some rows, none of which is a nought row; the empty one if there are none.

    No lot of them is thicker than top / bottom just if each of them can stand
    in `bottom` of `top` free lots. Else the rows that are in the way are a
    thicker lot, one that is by more too many than all others. A lot just as
    thick with more rows would be so by still more: so this one has all that
    are as thick within it as soon as none is thicker.
    """
    lot = rows
    while len(lot) > 0:
        top, bottom = thickness_of(table, lot)
        stock = stock_of(table, top)
        left = stock.fill([row for row in rows for _ in range(bottom)])
        if len(left) == 0:
            return lot
        lot = stock.reached(left)
    return lot


def others(table, lot):
    """Return the lot of the rows that are not in a lot."""
    return [row for row in range(len(table)) if row not in lot]


def thickness(table):
    """Return the greatest thickness, in lowest terms."""
    lot = thickest(table)
    return thickness_of(table, lot) if len(lot) > 0 else (0, 1)


def thickest(table):
    """Return the thickest lot."""
    check_noughts(table)
    return thickest_of(table, others(table, []))


def layers(table):
    """Return the layers: triples (top, bottom, lot), each of the thickness top / bottom."""
    check_noughts(table)
    told = []
    ahead = []
    while len(ahead) < len(table):
        over = table_over(table, ahead)
        lot = thickest_of(over, others(table, ahead))
        top, bottom = thickness_of(over, lot)
        told.append((top, bottom, lot))
        ahead = sorted(ahead + lot)
    return told


def paper_of(table, lot):
    """Return as many lots as a layer has rows, each of its rank, in so many of which each of its rows stands."""
    stock = stock_of(table, len(lot))
    rank = table.rank(lot)
    stock.fill([row for row in lot for _ in range(rank)])
    return stock.shown()


def layer_papers(table):
    """Return a paper of each layer."""
    papers = []
    ahead = []
    for lot in [layer[2] for layer in layers(table)]:
        papers.append(paper_of(table_over(table, ahead), lot))
        ahead = sorted(ahead + lot)
    return papers


def is_paper(table, lot, paper):
    """Tell whether this is a paper of a lot that has a rank in this table."""
    rank = table.rank(lot)
    if not is_list(paper) or len(paper) != len(lot) or not all([is_lot(part, len(table)) for part in paper]):
        return False
    if any([len(part) != rank or not table.is_free(part) for part in paper]):
        return False
    together = [row for part in paper for row in part]
    return all([together.count(row) == rank for row in lot]) and all([row in lot for row in together])


def are_layers(table, lots, papers):
    """Tell whether these are the lots of the layers, in order, and papers of them."""
    check_noughts(table)
    if not are_lots(lots, len(lots), len(table)) or sum([len(lot) for lot in lots]) != len(table):
        return False
    if len(papers) != len(lots):
        return False
    ahead = []
    # The rows and the rank of the layer ahead; the first one may be as thick as can be.
    rows, rank = 1, 0
    for lot, paper in zip(lots, papers):
        over = table_over(table, ahead)
        if over.rank(lot) == 0 or not len(lot) * rank < rows * over.rank(lot) or not is_paper(over, lot, paper):
            return False
        rows, rank = len(lot), over.rank(lot)
        ahead = sorted(list(ahead) + list(lot))
    return True
