"""Tables at the limits: 60 rows of 12 integers of 30 figures."""

import unittest
from random import Random

from brute import FIELDS, big_row, is_lot, made_of_few, rank
from freelots.bases import apart, exchanges, most_apart, partners
from freelots.errors import TooMany
from freelots.live import Keeper
from freelots.lots import bound, fewest, is_many, is_parting, is_placing, parted, placed
from freelots.many import fewest_many, parted_many
from freelots.prices import cheapest, dearest, is_price_paper, price_paper
from freelots.rows import Rows
from freelots.webs import web_rows, woods

HALF = 10 ** 14


def plain(seed):
    """Return 60 rows of which each twelve are free."""
    random = Random(seed)
    return [big_row(random, 12) for _ in range(60)]


def layered(seed):
    """Return 60 rows, many of which are made of few."""
    random = Random(seed)
    rows = []
    for many, base in ((16, 12), (20, 7), (14, 4), (7, 2), (3, 1)):
        rows += made_of_few(random, many, 12, base, HALF)
    random.shuffle(rows)
    return rows


def crowded(seed):
    """Return 60 rows of 30 figures that are made of five."""
    return made_of_few(Random(seed), 60, 12, 5, HALF)


KINDS = (plain, layered, crowded)


class LimitsTest(unittest.TestCase):

    def free(self, rows, field, lot):
        return rank([rows[row] for row in lot], field) == len(lot)

    def check_parting(self, rows, field, lots):
        self.assertTrue(all(is_lot(lot, 60) and self.free(rows, field, lot) for lot in lots))
        self.assertEqual(sorted(row for lot in lots for row in lot), list(range(60)))

    def check_many(self, rows, field, count, lot):
        self.assertTrue(is_lot(lot, 60))
        self.assertGreater(len(lot), count * rank([rows[row] for row in lot], field))

    def test_ranks(self):
        for kind in KINDS:
            rows = kind(1)
            for field in FIELDS:
                table = Rows(rows, field)
                for lot in (list(range(60)), list(range(0, 60, 7)), [3, 4, 59]):
                    found = rank([rows[row] for row in lot], field)
                    self.assertEqual(table.rank(lot), found)
                    self.assertEqual(table.is_free(lot), found == len(lot))
                    self.assertEqual(table.ring(lot) is None, found == len(lot))

    def test_rings(self):
        for kind in KINDS:
            for field in (0, 13):
                rows = kind(2)
                relation = Rows(rows, field).ring(list(range(60)))
                sums = [sum(number * rows[row][at] for row, number in relation.items()) for at in range(12)]
                self.assertEqual([total % field if field else total for total in sums], [0] * 12)
                ring = list(relation)
                self.assertEqual(rank([rows[row] for row in ring], field), len(ring) - 1)
                self.assertNotIn(0, relation.values())

    def test_hulls(self):
        rows = crowded(3)
        table = Rows(rows)
        self.assertEqual(table.hull([0, 1, 2, 3, 4]), list(range(60)))
        self.assertEqual(table.hull([0, 1, 2, 3]), [0, 1, 2, 3])
        self.assertEqual(Rows(plain(3)).hull(list(range(11))), list(range(11)))

    def test_partings(self):
        for kind in KINDS:
            for field in (0, 2, 13):
                rows = kind(4)
                table = Rows(rows, field)
                for count in (0, 1, 4, 5, 6, 12, 60):
                    word, told = parted(table, count)
                    if word == "lots":
                        self.check_parting(rows, field, told)
                        self.assertEqual(len(told), count)
                        self.assertTrue(is_parting(table, count, told))
                    else:
                        self.check_many(rows, field, count, told)
                        self.assertTrue(is_many(table, count, told))

    def test_fewest(self):
        for kind in KINDS:
            for field in (0, 11):
                rows = kind(5)
                word, lots, lot = fewest(Rows(rows, field))
                self.assertEqual(word, "lots")
                self.check_parting(rows, field, lots)
                self.check_many(rows, field, len(lots) - 1, lot)

    def test_placings(self):
        rows = [kind(seed) for seed in range(4) for kind in KINDS]
        fields = [0, 0, 2, 0, 0, 3, 0, 5, 0, 0, 0, 13]
        tables = [Rows(one, field) for one, field in zip(rows, fields)]
        for sizes in ([60] * 12, [5] * 12, [3] * 12, [0, 1, 2, 3, 4, 5, 6, 7, 8, 9, 10, 60]):
            lots, lot = placed(tables, sizes)
            self.assertTrue(is_placing(tables, sizes, lots))
            for one, field, part, size in zip(rows, fields, lots, sizes):
                self.assertTrue(is_lot(part, 60) and len(part) <= size and self.free(one, field, part))
            placed_things = [row for part in lots for row in part]
            self.assertEqual(len(placed_things), len(set(placed_things)))
            least = 60 - len(lot) + sum(min(size, rank([one[row] for row in lot], field))
                                        for one, field, size in zip(rows, fields, sizes))
            self.assertEqual(len(placed_things), least)
            self.assertEqual(bound(tables, sizes, lot), least)

    def test_placings_with_rows_left_over(self):
        table = Rows(crowded(6))
        for many in (1, 6, 11, 12):
            lots, lot = placed([table] * many, [60] * many)
            self.assertEqual(sum(len(part) for part in lots), 5 * many)
            self.assertEqual(bound([table] * many, [60] * many, lot), 5 * many)

    def test_keepers(self):
        for kind in KINDS:
            rows = kind(7)
            table = Rows(rows)
            keeper = Keeper(table, len(fewest(table)[1]))
            for row in range(60):
                self.assertIn(row, keeper.come(row))
            self.check_parting(rows, 0, keeper.lots())
            with self.assertRaises(TooMany) as caught:
                keeper.less(0)
            self.check_many(rows, 0, len(keeper.lots()) - 1, caught.exception.lot)
            keeper.more()
            keeper.less(0)
            self.check_parting(rows, 0, keeper.lots())
            for row in range(0, 60, 5):
                keeper.go(row)
            for row in range(55, -1, -5):
                keeper.come(row)
            self.check_parting(rows, 0, keeper.lots())
            last = keeper.lots()
            for _ in range(60 + 2 + 24):
                keeper.undo()
            self.assertEqual(keeper.lots(), [[]] * len(last))
            for _ in range(60 + 2 + 24):
                keeper.again()
            self.assertEqual(keeper.lots(), last)

    def check_bases(self, rows, field, lots):
        most = rank(rows, field)
        self.assertTrue(all(is_lot(lot, 60) and len(lot) == most and self.free(rows, field, lot) for lot in lots))
        together = [row for lot in lots for row in lot]
        self.assertEqual(len(together), len(set(together)))

    def check_few(self, rows, field, count, lot):
        self.assertTrue(is_lot(lot, 60))
        left = rank(rows, field) - rank([rows[row] for row in lot], field)
        self.assertLess(60 - len(lot), count * left)

    def test_bases(self):
        for kind in KINDS:
            for field in (0, 2, 13):
                rows = kind(9)
                table = Rows(rows, field)
                most = most_apart(table)
                for count in (1, most, most + 1, 60):
                    word, told = apart(table, count)
                    self.assertEqual(word, "bases" if count <= most else "lot")
                    if word == "bases":
                        self.assertEqual(len(told), count)
                        self.check_bases(rows, field, told)
                    else:
                        self.check_few(rows, field, count, told)

    def test_exchanges(self):
        for kind in KINDS:
            for field in (0, 11):
                rows = kind(10)
                table = Rows(rows, field)
                one, other = apart(table, 2)[1]
                base = one
                steps = exchanges(table, one, other)
                self.assertEqual(len(steps), len(one))
                for left, came in steps:
                    base = sorted([row for row in base if row != left] + [came])
                    self.assertTrue(self.free(rows, field, base))
                self.assertEqual(base, other)
                found = partners(table, one, other)
                self.assertEqual([list(found), sorted(found.values())], [one, other])
                for left, came in found.items():
                    self.assertTrue(self.free(rows, field, [row for row in one if row != left] + [came]))

    def test_prices(self):
        random = Random(11)
        for kind in KINDS:
            for field in (0, 7):
                rows = kind(11)
                table = Rows(rows, field)
                prices = [random.randrange(-10 ** 30, 10 ** 31) for _ in range(60)]
                most = most_apart(table)
                for count in (0, 1, most, most + 1, 60):
                    price, lots = dearest(table, count, prices)
                    self.assertTrue(all(is_lot(lot, 60) and self.free(rows, field, lot) for lot in lots))
                    self.assertEqual(price, sum(prices[row] for lot in lots for row in lot))
                    paper = price_paper(table, count, prices)
                    self.assertIs(is_price_paper(table, count, prices, lots, paper), True)
                    told = cheapest(table, count, prices)
                    if count <= most:
                        self.check_bases(rows, field, told[2])
                        self.assertEqual(told[1], sum(prices[row] for lot in told[2] for row in lot))
                    else:
                        self.check_few(rows, field, count, told[1])

    def test_prices_of_31_figures_that_all_stand_in_lots(self):
        rows = plain(12)
        prices = [10 ** 30 + 7 ** row % 10 ** 30 for row in range(60)]
        table = Rows(rows)
        self.assertEqual(dearest(table, 5, prices)[0], sum(prices))
        self.assertEqual(cheapest(table, 5, prices)[1], sum(prices))
        self.assertEqual(dearest(table, 1, prices)[0], sum(sorted(prices)[-12:]))
        self.assertEqual(cheapest(table, 1, prices)[1], sum(sorted(prices)[:12]))

    def test_webs(self):
        random = Random(13)
        ties = [tuple(random.sample(range(12), 2)) for _ in range(60)]
        rows = [list(web_rows(12, ties).row_at(row)) for row in range(60)]
        word, lots, lot = woods(12, ties)
        self.assertEqual(word, "lots")
        self.check_parting(rows, 0, lots)
        self.check_many(rows, 0, len(lots) - 1, lot)

    def test_many(self):
        random = Random(14)
        for base in (1, 2, 3, 5, 7, 10):
            for field in (0, 3, 13):
                rows = made_of_few(random, 10, 12, base, HALF)
                if base == 10:
                    rows = [big_row(random, 12) for _ in range(10)]
                table = Rows(rows, field)
                times = [0 if rank([row], field) == 0 else random.randrange(10 ** 28, 10 ** 29 + 1) for row in rows]
                self.check_times(rows, field, times, fewest_many(table, times))
                times = [number // 9 for number in times]
                self.check_times(rows, field, times, fewest_many(table, times))

    def check_times(self, rows, field, times, least):
        table = Rows(rows, field)
        if least <= 10 ** 29:
            word, pairs = parted_many(table, times, least)
            self.assertEqual(word, "lots")
            self.assertLessEqual(len(pairs), 22)
            self.assertTrue(all(self.free(rows, field, lot) for lot, _ in pairs))
            self.assertLessEqual(sum(number for _, number in pairs), least)
            for row in range(10):
                self.assertEqual(sum(number for lot, number in pairs if row in lot), times[row])
        count = min(least - 1, 10 ** 29)
        word, lot = parted_many(table, times, count)
        self.assertEqual(word, "lot")
        self.assertGreater(sum(times[row] for row in lot), count * rank([rows[row] for row in lot], field))

    def test_many_rows_that_all_come_as_often_as_can_be(self):
        table = Rows(plain(15)[:10])
        self.assertEqual(fewest_many(table, [10 ** 29] * 10), 10 ** 29)
        self.assertEqual(parted_many(table, [10 ** 29] * 10, 10 ** 29), ("lots", [(list(range(10)), 10 ** 29)]))
        self.assertEqual(fewest_many(Rows(crowded(15)[:10]), [10 ** 29] * 10), 2 * 10 ** 29)
        self.assertEqual(fewest_many(Rows([[1]] * 10), [10 ** 29] * 10), 10 ** 30)

    def test_sixty_lots(self):
        rows = layered(8)
        keeper = Keeper(Rows(rows), 60)
        for row in range(60):
            self.assertEqual(list(keeper.come(row)), [row])
        for _ in range(50):
            keeper.less(0)
        self.check_parting(rows, 0, keeper.lots())


if __name__ == "__main__":
    unittest.main()
