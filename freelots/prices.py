"""Prices: the dearest free lots, the cheapest bases, and papers that show the greatest price."""

from freelots.bases import based
from freelots.checks import check_count, check_prices, is_lot
from freelots.lots import are_lots
from freelots.ways import stock_of


def check_priced(table, count, prices):
    """Raise BadCount if this is no number of lots, then BadPrices if these are no prices of the rows."""
    check_count(count)
    check_prices(prices, len(table))


def ascending(prices):
    """Return the rows, those with lower prices ahead."""
    return [row for _, row in sorted([(price, row) for row, price in enumerate(prices)])]


def price_of(prices, lots):
    """Return the price of some lots."""
    return sum([prices[row] for lot in lots for row in lot])


def dearest(table, count, prices):
    """Return the greatest price of so many free lots, each two apart, and such lots."""
    check_priced(table, count, prices)
    stock = stock_of(table, count)
    stock.fill([row for row in ascending([-price for price in prices]) if prices[row] > 0])
    lots = stock.shown()
    return price_of(prices, lots), lots


def cheapest(table, count, prices):
    """Return so many bases, each two apart, of the least price, or a lot that leaves too few rows for them."""
    check_priced(table, count, prices)
    word, told = based(table, count, ascending(prices))
    if word == "lot":
        return word, told
    return word, price_of(prices, told), told


def levels_of(prices):
    """Return the unlike prices above 0, descending."""
    return sorted(set([price for price in prices if price > 0]))[::-1]


def price_paper(table, count, prices):
    """Return for each level a lot that shows how many of its rows can stand in so many lots."""
    check_priced(table, count, prices)
    stock = stock_of(table, count)
    left = []
    paper = []
    for level in levels_of(prices):
        left = left + stock.fill([row for row, price in enumerate(prices) if price == level])
        paper.append((level, stock.reached(left)))
    return paper


def shown_price(table, count, prices, paper):
    """Return the price that a paper shows, None if it is no paper."""
    levels = levels_of(prices)
    if [level for level, _ in paper] != levels:
        return None
    shown = 0
    for (level, lot), below in zip(paper, levels[1:] + [0]):
        rows = [row for row, price in enumerate(prices) if price >= level]
        if not is_lot(lot, len(table)) or not all([row in rows for row in lot]):
            return None
        shown = shown + (level - below) * (len(rows) - len(lot) + count * table.rank(lot))
    return shown


def is_price_paper(table, count, prices, lots, paper):
    """Tell whether these are so many free lots, each two apart, and the paper shows their price."""
    check_priced(table, count, prices)
    if not are_lots(lots, count, len(table)) or not all([table.is_free(lot) for lot in lots]):
        return False
    return price_of(prices, lots) == shown_price(table, count, prices, paper)
