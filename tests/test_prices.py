"""Prices of free lots and of bases, and papers that show them (point 13)."""

import unittest
from itertools import combinations, product
from random import Random

from brute import NOT_INTEGERS, NOT_LISTS, Ranks, all_lots, is_lot, made_of_few, small_tables
from freelots.errors import BadCount, BadPrices
from freelots.prices import cheapest, dearest, is_price_paper, price_paper
from freelots.rows import Rows

CALLS = (dearest, cheapest, price_paper, lambda *passed: is_price_paper(*passed, [], []))


def some_prices(random, many):
    """Return random prices of one of several kinds: alike, few, around 0, below 0, of 31 figures."""
    kind = random.randrange(6)
    if kind == 0:
        return [random.randint(-2, 2)] * many
    if kind == 5:
        return [random.choice((-1, 1, 1)) * random.randrange(10 ** 30, 10 ** 31) for _ in range(many)]
    low, high = ((1, 3), (-3, 4), (-5, 0), (-40, 90))[kind - 1]
    return [random.randint(low, high) for _ in range(many)]


def levels_of(prices):
    """Return the pairs of a level and the next one."""
    levels = sorted({price for price in prices if price > 0}, reverse=True)
    return list(zip(levels, levels[1:] + [0]))


def price_of(prices, lots):
    return sum(prices[row] for lot in lots for row in lot)


def free_ways(ranks, many, count):
    """Go through all ways to put some of the rows into so many free lots."""
    for places in product(range(-1, count), repeat=many):
        lots = [[row for row in range(many) if places[row] == at] for at in range(count)]
        if all(ranks.is_free(lot) for lot in lots):
            yield lots


def number_at(ranks, rows, count, lot):
    """Return the number that a lot shows for rows of a level."""
    return len(rows) - len(lot) + count * ranks.rank(lot)


def lots_of(rows):
    return [list(lot) for size in range(len(rows) + 1) for lot in combinations(rows, size)]


class PricesTest(unittest.TestCase):

    def check_lots(self, ranks, many, count, lots):
        self.assertIs(type(lots), list)
        self.assertEqual(len(lots), count)
        self.assertTrue(all(is_lot(lot, many) and ranks.is_free(lot) for lot in lots))
        rows = [row for lot in lots for row in lot]
        self.assertEqual(len(rows), len(set(rows)))

    def check_dearest(self, ranks, count, prices):
        """Check the lots and that the paper shows their price; return this."""
        many, table = len(prices), Rows(ranks.rows, ranks.field)
        found = dearest(table, count, prices)
        self.assertIs(type(found), tuple)
        price, lots = found
        self.check_lots(ranks, many, count, lots)
        self.assertEqual(price, price_of(prices, lots))
        self.assertFalse([row for lot in lots for row in lot if prices[row] <= 0])
        paper = price_paper(table, count, prices)
        self.assertIs(type(paper), list)
        self.assertEqual([level for level, _ in paper], [level for level, _ in levels_of(prices)])
        shown = 0
        for pair, (level, below) in zip(paper, levels_of(prices)):
            self.assertIs(type(pair), tuple)
            self.assertIs(type(pair[1]), list)
            self.assertTrue(is_lot(pair[1], many))
            self.assertFalse([row for row in pair[1] if prices[row] < level])
            rows = [row for row in range(many) if prices[row] >= level]
            shown += (level - below) * number_at(ranks, rows, count, pair[1])
        self.assertEqual(shown, price)
        self.assertIs(is_price_paper(table, count, prices, lots, paper), True)
        return price, paper

    def check_cheapest(self, ranks, count, prices):
        """Check the bases, or the lot; return the price of the bases."""
        many = len(prices)
        most = ranks.rank(range(many))
        found = cheapest(Rows(ranks.rows, ranks.field), count, prices)
        self.assertIs(type(found), tuple)
        if found[0] == "lot":
            word, lot = found
            self.assertTrue(is_lot(lot, many))
            self.assertLess(many - len(lot), count * (most - ranks.rank(lot)))
            return None
        word, price, lots = found
        self.assertEqual(word, "bases")
        self.check_lots(ranks, many, count, lots)
        self.assertTrue(all(len(lot) == most for lot in lots))
        self.assertEqual(price, price_of(prices, lots))
        return price

    def test_against_all_ways(self):
        random = Random(131)
        for rows, field in small_tables(131, 84, most_rows=5):
            ranks, many = Ranks(rows, field), len(rows)
            for count in range(4):
                prices = some_prices(random, many)
                ways = list(free_ways(ranks, many, count))
                self.assertEqual(self.check_dearest(ranks, count, prices)[0],
                                 max(price_of(prices, lots) for lots in ways))
                most = ranks.rank(range(many))
                told = [price_of(prices, lots) for lots in ways if all(len(lot) == most for lot in lots)]
                self.assertEqual(self.check_cheapest(ranks, count, prices), min(told, default=None))

    def test_papers_against_all_lots_of_each_level(self):
        random = Random(132)
        for rows, field in small_tables(132, 84):
            ranks, many = Ranks(rows, field), len(rows)
            for count in (0, 1, 2, 3):
                prices = some_prices(random, many)
                for level, lot in self.check_dearest(ranks, count, prices)[1]:
                    of_level = [row for row in range(many) if prices[row] >= level]
                    least = min(number_at(ranks, of_level, count, other) for other in lots_of(of_level))
                    self.assertEqual(number_at(ranks, of_level, count, lot), least)

    def test_shuffled_tables_of_up_to_60_rows(self):
        for seed in range(16):
            random = Random(seed)
            width = random.randint(3, 12)
            rows = []
            while len(rows) < 45:
                rows += made_of_few(random, random.randint(1, 15), width, random.randint(1, width), 2)
            random.shuffle(rows)
            ranks = Ranks(rows, (0, 2, 5, 13)[seed % 4])
            for count in (1, 3, 5):
                prices = some_prices(random, len(rows))
                self.check_dearest(ranks, count, prices)
                turned = self.check_cheapest(ranks, count, prices)
                if turned is not None and min(prices) > 0:
                    most = max(prices) + 1
                    # The cheapest bases are the dearest lots, if each price is told from above.
                    price, _ = self.check_dearest(ranks, count, [most - price for price in prices])
                    self.assertEqual(turned, most * count * ranks.rank(range(len(rows))) - price)

    def test_prices_alike(self):
        table = Rows([[1, 0], [0, 1], [1, 1], [2, 2]])
        self.assertEqual(dearest(table, 1, [7] * 4)[0], 14)
        self.assertEqual(dearest(table, 2, [7] * 4)[0], 28)
        paper = price_paper(table, 1, [7] * 4)
        self.assertEqual([level for level, _ in paper], [7])
        self.assertEqual(cheapest(table, 1, [7] * 4)[:2], ("bases", 14))
        self.assertEqual(cheapest(table, 2, (-7,) * 4)[:2], ("bases", -28))

    def test_prices_not_above_0(self):
        table = Rows([[1, 0], [0, 1], [1, 1], [2, 2]])
        for prices in ([0] * 4, [-1, 0, -10 ** 30, 0], (-5, -5, -6, -7)):
            self.assertEqual(dearest(table, 2, prices), (0, [[], []]))
            self.assertEqual(price_paper(table, 2, prices), [])
            self.assertIs(is_price_paper(table, 2, prices, [[], []], []), True)
        self.assertEqual(dearest(table, 1, [0, 0, 3, -1]), (3, [[2]]))
        self.assertEqual(cheapest(table, 1, [0, -4, -5, -1]), ("bases", -9, [[1, 2]]))
        self.assertEqual(cheapest(table, 2, [0, -4, 5, -1])[:2], ("bases", 0))

    def test_plain_prices(self):
        table = Rows([[1, 0], [2, 0], [3, 0], [0, 1]])
        self.assertEqual(dearest(table, 1, [3, 9, 4, 1]), (10, [[1, 3]]))
        self.assertEqual(dearest(table, 2, [3, 9, 4, 1])[0], 14)
        self.assertEqual(cheapest(table, 1, [3, 9, 4, 1]), ("bases", 4, [[0, 3]]))
        self.assertEqual(price_paper(table, 1, [3, 9, 4, 1])[0], (9, []))
        self.assertEqual([level for level, _ in price_paper(table, 1, [3, 9, 4, 1])], [9, 4, 3, 1])
        self.assertEqual(cheapest(table, 2, [3, 9, 4, 1])[0], "lot")

    def test_ends(self):
        for count in (0, 1, 60):
            self.assertEqual(dearest(Rows([]), count, []), (0, [[]] * count))
            self.assertEqual(cheapest(Rows([]), count, ()), ("bases", 0, [[]] * count))
            self.assertEqual(price_paper(Rows([]), count, []), [])
            self.assertIs(is_price_paper(Rows([]), count, [], [[]] * count, []), True)
            self.assertEqual(dearest(Rows([[0], [0]]), count, [5, 6]), (0, [[]] * count))
            self.assertEqual(cheapest(Rows([[0], [0]]), count, [5, 6]), ("bases", 0, [[]] * count))
            self.assertEqual(price_paper(Rows([[0], [0]]), count, [5, 6]), [(6, [1]), (5, [0, 1])])
        self.assertEqual(price_paper(Rows([[1], [2]]), 0, [5, 6]), [(6, [1]), (5, [0, 1])])
        self.assertEqual(dearest(Rows([[1]] * 60), 60, list(range(60)))[0], 59 * 30)
        self.assertEqual(cheapest(Rows([[1]] * 60), 60, list(range(60)))[1], 59 * 30)
        self.assertEqual(cheapest(Rows([[1]] * 59 + [[0]]), 60, list(range(60)))[0], "lot")
        most = 10 ** 31 - 1
        self.assertEqual(dearest(Rows([[1]] * 60), 59, [most] * 59 + [most - 1])[0], 59 * most)
        self.assertEqual(cheapest(Rows([[1]] * 60), 1, [most] * 59 + [-most])[:2], ("bases", -most))


class PaperTest(unittest.TestCase):

    def setUp(self):
        self.table = Rows([[1, 0], [2, 0], [3, 0], [0, 1], [0, 0]])
        self.prices = [3, 9, 3, 1, 2]
        self.lots = [[1, 3], [0]]
        self.paper = [(9, []), (3, [0, 1, 2]), (2, [0, 1, 2, 4]), (1, [0, 1, 2, 4])]

    def told(self, lots, paper, count=2, prices=None):
        return is_price_paper(self.table, count, prices or self.prices, lots, paper)

    def test_right_papers(self):
        self.assertIs(self.told(self.lots, self.paper), True)
        self.assertIs(self.told([[0], [1, 3]], self.paper), True)
        self.assertIs(self.told([(1,), (2, 3)], self.paper), True)
        self.assertIs(self.told(((1, 3), (0,)), tuple([level, tuple(lot)] for level, lot in self.paper)), True)
        for first in ([1], []):
            for last in ([0, 1, 2, 4], [0, 1, 2, 3, 4]):
                paper = [(9, first), self.paper[1], self.paper[2], (1, last)]
                self.assertIs(self.told(self.lots, paper), len(first) == 0 and len(last) == 4)

    def test_bent_levels(self):
        bent = [[], self.paper[:3], self.paper[1:], self.paper + [(0, [])], self.paper + [(0, [0, 1, 2, 4])],
                self.paper[::-1], [self.paper[1], self.paper[0], *self.paper[2:]], [self.paper[0], *self.paper],
                [(10, []), *self.paper], [(8, []), *self.paper[1:]], [(9, []), (3, [0, 1, 2]), (3, [0, 1, 2]),
                                                                       *self.paper[2:]],
                [*self.paper[:2], (1, [0, 1, 2, 4])], self.paper + [(-1, [])], [(10 ** 31, []), *self.paper[1:]]]
        for paper in bent:
            self.assertIs(self.told(self.lots, paper), False, paper)

    def test_bent_lots_of_the_paper(self):
        lots = [[0], [0, 2], [2, 1, 0], [0, 1, 1, 2], [0, 0, 1, 2], [0, 1, 2, 5], [-1, 0, 1, 2], [3], [4],
                [0, 1, 2, 3], [0, 1, 2, 4], [0, 1, 2, 10 ** 31], []]
        for lot in lots:
            self.assertIs(self.told(self.lots, [self.paper[0], (3, lot), *self.paper[2:]]), False, lot)
        # These would show the right number, if rows below the level could stand in them.
        self.assertIs(self.told(self.lots, [(9, [0, 1, 2]), *self.paper[1:]]), False)
        self.assertIs(self.told([[1]], [(9, [4])], 1, [0, 9, 0, 0, 0]), False)
        self.assertIs(self.told([[1]], [(9, [])], 1, [0, 9, 0, 0, 0]), True)

    def test_bent_lots(self):
        bent = [[], [[1, 3]], [[1, 3], [0], []], [[1, 3], [1]], [[1, 3], []], [[1], [0]], [[3, 1], [0]],
                [[0, 1], [3]], [[1, 3], [0, 3]], [[1, 3], [0, 4]], [[1, 3], [5]], [[1, 3], [-1]], [[0, 3], [2]],
                [[1, 3, 3], [0]], [[1, 3], [0, 2]], [[1, 3], [0, 10 ** 31]], [[1, 3], [-5]], [[1, 1, 3], [0]]]
        for lots in bent:
            self.assertIs(self.told(lots, self.paper), False, lots)
        self.assertIs(self.told(self.lots, self.paper, 1), False)
        self.assertIs(self.told(self.lots, self.paper, 3), False)

    def test_lots_that_would_show_the_price_if_they_were_lots(self):
        self.assertIs(self.told([[1, 3], [0, 4, 4]], self.paper, 2, [3, 9, 3, 1, 0]), False)
        paper = [(9, []), (3, [0, 1, 2]), (1, [0, 1, 2])]
        prices = [3, 9, 3, 1, 0]
        self.assertIs(self.told([[1, 3], [0]], paper, 2, prices), True)
        for lots in ([[1, 3], [0, 4]], [[3, 1], [0]], [[1, 3], [0], []], [[0, 1, 3], []]):
            self.assertIs(self.told(lots, paper, 2, prices), False)

    def test_rows_whose_price_is_0_or_below(self):
        table = Rows([[1, 0], [0, 1], [1, 1]])
        for prices, lots, right in [([5, 0, 0], [[0, 1]], True), ([5, 0, 0], [[0, 2]], True),
                                    ([5, 0, 0], [[0]], True), ([5, 0, 0], [[1]], False),
                                    ([5, -1, 0], [[0, 1]], False), ([5, -1, 0], [[0, 2]], True),
                                    ([5, 0, 0], [[0, 1, 2]], False)]:
            self.assertIs(is_price_paper(table, 1, prices, lots, [(5, [])]), right)
            self.assertIs(is_price_paper(table, 1, prices, lots, [(5, [0])]), right)
        self.assertIs(is_price_paper(table, 1, [0, 0, -2], [[0, 1]], []), True)
        self.assertIs(is_price_paper(table, 1, [0, 0, -2], [[0, 2]], []), False)

    def test_against_all_papers(self):
        rows = [[1, 0], [2, 0], [0, 1]]
        ranks, table = Ranks(rows), Rows(rows)
        lists = all_lots(3) + [[1, 0], [0, 0], [3], [-1]]
        for prices in ([2, 1, 0], [1, 1, 1], [1, 2, -1], [3, 3, 5]):
            levels = levels_of(prices)
            for lots in product(lists, repeat=2):
                right = all(is_lot(lot, 3) and ranks.is_free(lot) for lot in lots)
                right = right and not set(lots[0]) & set(lots[1])
                for of_paper in product(lists, repeat=len(levels)):
                    shown = self.shown(ranks, prices, levels, of_paper)
                    paper = [(level, lot) for (level, _), lot in zip(levels, of_paper)]
                    told = is_price_paper(table, 2, prices, list(lots), paper)
                    self.assertEqual(told, right and shown == price_of(prices, lots))

    def shown(self, ranks, prices, levels, lots):
        shown = 0
        for (level, below), lot in zip(levels, lots):
            rows = [row for row in range(3) if prices[row] >= level]
            if not is_lot(lot, 3) or not set(lot) <= set(rows):
                return None
            shown += (level - below) * number_at(ranks, rows, 2, lot)
        return shown


class RefusedTest(unittest.TestCase):

    def refused(self, error, value, table, count, prices):
        for call in CALLS:
            with self.assertRaises(error) as caught:
                call(table, count, prices)
            if error is BadCount:
                self.assertIs(caught.exception.count, value)
            else:
                self.assertEqual(caught.exception.index, value)

    def test_bad_counts_ahead_of_bad_prices(self):
        table = Rows([[1], [2]])
        for count in [-1, 61, -60, 10 ** 31, *NOT_INTEGERS]:
            for prices in ([1, 2], None, [], [1, True]):
                self.refused(BadCount, count, table, count, prices)

    def test_bad_prices(self):
        table = Rows([[1], [2]])
        for count in (0, 1, 60):
            for prices in [*NOT_LISTS, [], [1], (1,), [1, 2, 3], [None], [1, 2, None]]:
                self.refused(BadPrices, 0, table, count, prices)
            for thing in NOT_INTEGERS:
                self.refused(BadPrices, 0, table, count, [thing, thing])
                self.refused(BadPrices, 1, table, count, (-10 ** 30, thing))
        self.refused(BadPrices, 0, Rows([]), 1, [1])
        self.refused(BadPrices, 59, Rows([[1]] * 60), 1, [0] * 59 + [True])


if __name__ == "__main__":
    unittest.main()
