"""Known tables (point 31)."""

import unittest
from itertools import combinations

from brute import Ranks, all_lots
from freelots.bases import most_apart
from freelots.known import full_web, moments, seven, units
from freelots.lots import fewest
from freelots.rows import Rows
from freelots.thick import layers, thickness


def rows_of(table):
    return [table.row_at(row) for row in range(len(table))]


class KnownTest(unittest.TestCase):

    def check(self, table, field, rows):
        self.assertIsInstance(table, Rows)
        self.assertEqual(table.field, field)
        self.assertEqual(rows_of(table), [tuple(row) for row in rows])
        self.assertEqual(table.width, len(rows[0]) if rows else 0)

    def test_moments(self):
        for width in range(1, 13):
            for count in (0, 1, 2, 13, 59, 60):
                self.check(moments(count, width), 0, [[row ** at for at in range(width)] for row in range(count)])
        self.assertEqual(rows_of(moments(3, 4)), [(1, 0, 0, 0), (1, 1, 1, 1), (1, 2, 4, 8)])
        self.assertEqual(moments(60, 12).row_at(59)[11], 59 ** 11)
        self.assertEqual(moments(2, 1), Rows([[1], [1]]))

    def test_lots_of_moments(self):
        for width in range(1, 6):
            table = moments(8, width)
            for lot in all_lots(8):
                self.assertEqual(table.is_free(lot), len(lot) <= width)
        table = moments(60, 12)
        for lot in ([*range(12)], [*range(48, 60)], [*range(0, 60, 5)]):
            self.assertTrue(table.is_free(lot))
        self.assertFalse(table.is_free([*range(0, 60, 5), 59]))

    def test_what_is_known_of_moments(self):
        for count in (0, 1, 2, 5, 8, 12):
            for width in range(1, 5):
                table = moments(count, width)
                self.assertEqual(len(fewest(table)[1]), -(-count // width))
                rank = min(count, width)
                self.assertEqual(most_apart(table), count // rank if rank else None)
                told = [count, rank] if count > 0 else [0, 1]
                top, bottom = thickness(table)
                self.assertEqual(top * told[1], bottom * told[0])
                self.assertEqual([lot for _, _, lot in layers(table)], [list(range(count))] if count else [])
        self.assertEqual(len(fewest(moments(60, 7))[1]), 9)
        self.assertEqual(most_apart(moments(60, 7)), 8)

    def test_units(self):
        for width in range(13):
            for times in (0, 1, 2, 5):
                rows = [[int(at == place) for at in range(width)] for place in range(width) for _ in range(times)]
                self.check(units(width, times), 0, rows)
        self.assertEqual(rows_of(units(2, 2)), [(1, 0), (1, 0), (0, 1), (0, 1)])
        self.assertEqual(units(1, 60), Rows([[1]] * 60))
        self.assertEqual(units(0, 7), Rows([]))
        self.assertEqual(units(0, 10 ** 6), Rows([]))
        self.assertEqual(units(12, 0), Rows([]))

    def test_what_is_known_of_units(self):
        for width in range(1, 5):
            for times in (1, 2, 3):
                table = units(width, times)
                self.assertEqual(len(fewest(table)[1]), times)
                self.assertEqual(most_apart(table), times)
                self.assertEqual(thickness(table), (times, 1))
                self.assertEqual(layers(table), [(times, 1, list(range(width * times)))])
                self.assertEqual(table.rank(list(range(width * times))), width)
        for table in (units(0, 3), units(3, 0)):
            self.assertEqual([fewest(table), most_apart(table), thickness(table)], [("lots", [], []), None, (0, 1)])
        self.assertEqual([len(fewest(units(12, 5))[1]), most_apart(units(12, 5))], [5, 5])

    def test_full_web(self):
        for places in range(12):
            ties = list(combinations(range(places), 2))
            rows = [[int(at == one) - int(at == two) for at in range(places)] for one, two in ties]
            self.check(full_web(places), 0, rows)
        self.assertEqual(rows_of(full_web(3)), [(1, -1, 0), (1, 0, -1), (0, 1, -1)])
        for places in (0, 1):
            self.assertEqual(full_web(places), Rows([]))
        self.assertEqual(len(full_web(11)), 55)

    def test_what_is_known_of_full_webs(self):
        for places in range(2, 12):
            table = full_web(places)
            self.assertEqual(table.rank(list(range(len(table)))), places - 1)
            self.assertEqual(len(fewest(table)[1]), -(-places // 2))
            self.assertEqual(most_apart(table), places // 2)
        for places in range(2, 6):
            half = (places // 2, 1) if places % 2 == 0 else (places, 2)
            self.assertEqual(thickness(full_web(places)), half)
            self.assertEqual(layers(full_web(places)), [(*half, list(range(places * (places - 1) // 2)))])

    def test_seven(self):
        self.check(seven(), 2, [[0, 0, 1], [0, 1, 0], [0, 1, 1], [1, 0, 0], [1, 0, 1], [1, 1, 0], [1, 1, 1]])

    def test_what_is_known_of_seven(self):
        table = seven()
        self.assertEqual(len([lot for lot in combinations(range(7), 3) if not table.is_free(list(lot))]), 7)
        self.assertEqual([lot for lot in all_lots(7) if len(lot) == 3 and not table.is_free(lot)],
                         [[0, 1, 2], [0, 3, 4], [0, 5, 6], [1, 3, 5], [1, 4, 6], [2, 3, 6], [2, 4, 5]])
        self.assertTrue(all(table.is_free(lot) for lot in all_lots(7) if len(lot) < 3))
        self.assertEqual(Ranks([list(row) for row in rows_of(table)], 2).rank(range(7)), 3)
        self.assertEqual([len(fewest(table)[1]), most_apart(table), thickness(table)], [3, 2, (7, 3)])

    def test_each_call_gives_a_table_of_its_own(self):
        self.assertEqual([moments(3, 2), units(3, 2), full_web(4), seven()],
                         [moments(3, 2), units(3, 2), full_web(4), seven()])


if __name__ == "__main__":
    unittest.main()
