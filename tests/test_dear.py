"""Dearest common lots of each size, and splits that show them (points 29 and 30)."""

import unittest
from random import Random

from brute import NOT_INTEGERS, NOT_LISTS, Ranks, all_lots, is_lot
from freelots.common import common
from freelots.dear import dear_common, is_split
from freelots.errors import BadPrices, UnlikeRows
from freelots.rows import Rows
from test_common import pairs_of_tables
from test_prices import some_prices


def table_of(ranks):
    return Rows(ranks.rows, ranks.field)


def price_of(prices, lot):
    return sum(prices[row] for row in lot)


def dearest_prices(one, other, prices):
    """Return the greatest prices of the common lots of each size."""
    best = {}
    for lot in all_lots(len(prices)):
        if one.is_free(lot) and other.is_free(lot):
            price = price_of(prices, lot)
            best[len(lot)] = max(price, best.get(len(lot), price))
    return [best[size] for size in sorted(best)]


def is_dearest(ranks, prices, lot):
    return all(price_of(prices, other) <= price_of(prices, lot) for other in all_lots(len(prices))
               if len(other) == len(lot) and ranks.is_free(other))


def shows(one, other, prices, lot, split):
    """Tell whether a split shows a lot, by its definition."""
    if not is_lot(list(lot), len(prices)) or not one.is_free(lot) or not other.is_free(lot):
        return False
    if [sum(pair) for pair in split] != list(prices):
        return False
    return is_dearest(one, [pair[0] for pair in split], lot) and is_dearest(other, [pair[1] for pair in split], lot)


class DearTest(unittest.TestCase):

    def check(self, one, other, prices):
        """Check all but that the lots are the dearest ones; return their prices."""
        found = dear_common(table_of(one), table_of(other), prices)
        self.assertIs(type(found), list)
        for size, told in enumerate(found):
            self.assertIs(type(told), tuple)
            price, lot, split = told
            self.assertTrue(type(lot) is list and is_lot(lot, len(prices)))
            self.assertEqual([len(lot), price_of(prices, lot)], [size, price])
            self.assertTrue(one.is_free(lot) and other.is_free(lot))
            self.assertIs(type(split), list)
            self.assertTrue(all(type(pair) is tuple and len(pair) == 2 for pair in split))
            self.assertTrue(all(type(number) is int for pair in split for number in pair))
            self.assertEqual([first + second for first, second in split], list(prices))
            self.assertIs(is_split(table_of(one), table_of(other), prices, lot, split), True)
        return [price for price, _, _ in found]

    def test_against_all_lots(self):
        random = Random(291)
        for one, other in pairs_of_tables(291, 300):
            prices = some_prices(random, len(one.rows))
            self.assertEqual(self.check(one, other, prices), dearest_prices(one, other, prices))
            for _, lot, split in dear_common(table_of(one), table_of(other), prices):
                self.assertTrue(shows(one, other, prices, lot, split))

    def test_sizes_up_to_the_greatest_common_lots(self):
        random = Random(292)
        for one, other in pairs_of_tables(292, 100, most_rows=12):
            prices = some_prices(random, len(one.rows))
            found = dear_common(table_of(one), table_of(other), prices)
            self.assertEqual(len(found) - 1, len(common(table_of(one), table_of(other))[0]))
            self.assertEqual(found[0], (0, [], found[0][2]))

    def test_each_dearest_lot_has_a_split_and_no_other_one(self):
        # A split that shows one dearest lot of a size shows all of them, so that it is enough to try this one.
        random = Random(293)
        for one, other in pairs_of_tables(293, 80, most_rows=6):
            prices = some_prices(random, len(one.rows))
            for price, dear, split in dear_common(table_of(one), table_of(other), prices):
                for lot in all_lots(len(prices)):
                    if len(lot) == len(dear):
                        can = one.is_free(lot) and other.is_free(lot) and price_of(prices, lot) == price
                        told = is_split(table_of(one), table_of(other), prices, lot, split)
                        self.assertIs(told, can)

    def test_prices_alike_and_below_0(self):
        one, other = Ranks([[1, 0], [0, 1], [1, 1], [2, 2]]), Ranks([[1], [0], [2], [3]], 7)
        for price in (0, 1, -1, 10 ** 31 - 1, 1 - 10 ** 31):
            self.assertEqual(self.check(one, other, [price] * 4), [0, price])
            self.assertEqual(self.check(one, one, [price] * 4), [0, price, 2 * price])
            self.assertEqual(self.check(one, one, (price,) * 4), [0, price, 2 * price])
        self.assertEqual(self.check(one, one, [-5, -1, -7, -6]), [0, -1, -6])
        great = 10 ** 30
        self.assertEqual(self.check(one, one, [great, -great, 10 * great - 1, 7]), [0, 10 * great - 1, 11 * great - 1])

    def test_longer_lots_that_do_not_hold_the_shorter_ones(self):
        one = Ranks([[1, 0], [1, 0], [0, 1]])
        other = Ranks([[1, 0], [0, 1], [1, 0]])
        self.assertEqual(self.check(one, other, [10, 6, 5]), [0, 10, 11])
        found = dear_common(table_of(one), table_of(other), [10, 6, 5])
        self.assertEqual([lot for _, lot, _ in found], [[], [0], [1, 2]])

    def test_ends(self):
        self.assertEqual(dear_common(Rows([]), Rows([], 2), []), [(0, [], [])])
        self.assertEqual(dear_common(Rows([]), Rows([]), ()), [(0, [], [])])
        found = dear_common(Rows([[0]]), Rows([[1]]), [7])
        self.assertEqual([told[:2] for told in found], [(0, [])])
        self.assertEqual([sum(pair) for pair in found[0][2]], [7])
        self.assertEqual(self.check(Ranks([[1]]), Ranks([[1, 1]], 3), [-4]), [0, -4])


class SplitTest(unittest.TestCase):

    def check(self, one, other, prices, lot, split):
        told = is_split(table_of(one), table_of(other), prices, lot, split)
        self.assertIs(told, shows(one, other, prices, lot, split), (one.rows, other.rows, prices, lot, split))
        return told

    def test_bent_splits(self):
        random = Random(301)
        told = []
        for one, other in pairs_of_tables(301, 60, most_rows=6):
            prices = some_prices(random, len(one.rows))
            for _, lot, split in dear_common(table_of(one), table_of(other), prices):
                rest = one, other, prices, lot
                self.assertTrue(self.check(*rest, split))
                self.assertTrue(self.check(*rest, tuple(map(list, split))))
                for at, (first, second) in enumerate(split):
                    for bent in ([(first + 1, second)], [(first, second - 1)], [(first, second)] * 2, []):
                        self.assertFalse(self.check(*rest, split[:at] + bent + split[at + 1:]))
                    for step in (1, -1, 3, -10 ** 32):
                        bent = split[:at] + [(first + step, second - step)] + split[at + 1:]
                        told.append(self.check(*rest, bent))
                self.assertFalse(self.check(*rest, split + [(0, 0)]))
        self.assertGreater(min(told.count(True), told.count(False)), 100)

    def test_other_lots(self):
        random = Random(302)
        for one, other in pairs_of_tables(302, 60, most_rows=5):
            many = len(one.rows)
            prices = some_prices(random, many)
            for _, _, split in dear_common(table_of(one), table_of(other), prices):
                for lot in all_lots(many):
                    self.check(one, other, prices, lot, split)
                    self.assertFalse(self.check(one, other, prices, lot + [many], split))
                    self.assertFalse(self.check(one, other, prices, [-1] + lot, split))
                    if lot:
                        self.assertFalse(self.check(one, other, prices, lot + lot[-1:], split))
                    if len(lot) > 1:
                        self.assertFalse(self.check(one, other, prices, lot[::-1], split))

    def test_lots_that_are_free_by_one_table_alone(self):
        one, other = Ranks([[1, 0], [0, 1]]), Ranks([[1], [1]])
        self.assertFalse(self.check(one, other, [0, 0], [0, 1], [(0, 0), (0, 0)]))
        self.assertFalse(self.check(other, one, [0, 0], [0, 1], [(0, 0), (0, 0)]))
        self.assertTrue(self.check(one, one, [0, 0], [0, 1], [(0, 0), (0, 0)]))
        self.assertTrue(self.check(one, one, [4, -6], (0, 1), [(7, -3), (0, -6)]))
        self.assertTrue(self.check(one, other, [4, -6], (0,), [(7, -3), (0, -6)]))
        self.assertFalse(self.check(one, other, [4, -6], (0,), [(7, -3), (8, -14)]))
        self.assertFalse(self.check(one, other, [4, -6], (0,), [(7, -3), (-4, -2)]))

    def test_great_integers(self):
        one = Ranks([[1, 0], [0, 1], [1, 1]])
        for great in (10 ** 31, -10 ** 31, 10 ** 3000):
            prices = [10 ** 30, 10 ** 30, 10 ** 30 - 1]
            split = [(price + great, -great) for price in prices]
            self.assertTrue(self.check(one, one, prices, [0, 1], split))
            self.assertFalse(self.check(one, one, prices, [0, 2], split))
            self.assertFalse(self.check(one, one, prices, [0, 1], split[:2] + [(prices[2] + great, 1 - great)]))


class RefusedTest(unittest.TestCase):

    def calls(self, one, other, prices):
        yield dear_common, (one, other, prices)
        for lot, split in (([], []), ([0], [(1, 2)]), ([5], []), (None, None)):
            yield is_split, (one, other, prices, lot, split)

    def test_unlike_rows(self):
        for one, other in (([], [[1]]), ([[1]], []), ([[1]] * 3, [[1, 2]] * 2), ([[]] * 30, [[]] * 29)):
            for prices in ([], [1], [0] * 3, None, [None] * 30, 7):
                for call, passed in self.calls(Rows(one), Rows(other, 5), prices):
                    with self.assertRaises(UnlikeRows):
                        call(*passed)

    def test_prices(self):
        cases = [(0, prices) for prices in [*NOT_LISTS, [], [1], (1, 2), [1, 2, 3, 4], [None] * 4]]
        for thing in NOT_INTEGERS:
            cases += [(0, [thing, thing, 1]), (1, (1, thing, thing)), (2, [1, -10 ** 31, thing])]
        for index, prices in cases:
            for call, passed in self.calls(Rows([[1]] * 3), Rows([[2, 1]] * 3, 3), prices):
                with self.assertRaises(BadPrices) as caught:
                    call(*passed)
                self.assertEqual(caught.exception.index, index)
        for call, passed in self.calls(Rows([]), Rows([]), [1]):
            with self.assertRaises(BadPrices):
                call(*passed)


if __name__ == "__main__":
    unittest.main()
