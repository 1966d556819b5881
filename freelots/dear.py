"""Dearest common lots of each size, and splits of the prices that show them."""

from freelots.checks import check_alike, check_prices, is_lot
from freelots.gauge import Gauge
from freelots.meets import all_meets
from freelots.prices import ascending, price_of


def check_dear(one, other, prices):
    """Raise UnlikeRows if two tables do not have as many rows, then BadPrices if these are no prices of them."""
    check_alike(one, other)
    check_prices(prices, len(one))


def dear_common(one, other, prices):
    """Return for each size the greatest price of a common lot, such a lot and a split that shows it."""
    check_dear(one, other, prices)
    told = []
    for meet in all_meets(one, other, list(prices)):
        lot = meet.common_lot()
        told.append((price_of(prices, [lot]), lot, meet.price_split()))
    return told


def is_dearest(table, prices, lot):
    """Tell whether a free lot is a dearest one among the free lots of its size."""
    gauge = Gauge(table.width, table.field)
    best = []
    for row in ascending([-price for price in prices]):
        if len(best) < len(lot) and gauge.take(row, table.row_at(row)):
            best.append(row)
    return price_of(prices, [best]) == price_of(prices, [lot])


def is_split(one, other, prices, lot, split):
    """Tell whether a split of the prices shows a common lot."""
    check_dear(one, other, prices)
    if not is_lot(lot, len(one)) or not one.is_free(lot) or not other.is_free(lot):
        return False
    if [first + second for first, second in split] != list(prices):
        return False
    firsts = [first for first, _ in split]
    seconds = [second for _, second in split]
    return is_dearest(one, firsts, lot) and is_dearest(other, seconds, lot)
