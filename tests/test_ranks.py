"""Ranks, free lots, hulls and rings (points 3 to 5)."""

import unittest
from itertools import combinations
from math import gcd

from brute import FIELDS, NOT_INTEGERS, NOT_LISTS, Ranks, all_lots, small_tables
from freelots.errors import BadLot
from freelots.lots import bound
from freelots.rows import Rows


class RanksTest(unittest.TestCase):

    def test_against_all_lots(self):
        for rows, field in small_tables(11, 140, most_rows=6):
            table, ranks = Rows(rows, field), Ranks(rows, field)
            for lot in all_lots(len(rows)):
                self.assertEqual(table.rank(lot), ranks.rank(lot), (rows, field, lot))
                self.assertIs(table.is_free(lot), ranks.is_free(lot))
                made = [row for row in range(len(rows)) if ranks.makes(lot, row)]
                self.assertEqual(table.hull(lot), made, (rows, field, lot))

    def test_rank_is_that_of_a_greatest_free_lot(self):
        for rows, field in small_tables(12, 40, most_rows=5):
            table = Rows(rows, field)
            for lot in all_lots(len(rows)):
                free = [part for part in all_lots(len(rows)) if set(part) <= set(lot) and table.is_free(part)]
                self.assertEqual(table.rank(lot), max(len(part) for part in free))

    def test_noughts(self):
        table = Rows([[0, 0], [3, 6], [0, 0]], 3)
        self.assertEqual(table.hull([]), [0, 1, 2])
        self.assertEqual((table.rank([0, 1, 2]), table.is_free([0]), table.is_free([])), (0, False, True))
        table = Rows([[]] * 3)
        self.assertEqual(table.hull([]), [0, 1, 2])
        self.assertEqual((table.rank([0, 2]), table.is_free([1]), table.ring([0, 2])), (0, False, {0: 1}))

    def test_same_rows(self):
        table = Rows([[1, 2], [1, 2], [2, 4], [-1, -2], [0, 1]])
        self.assertEqual(table.hull([1]), [0, 1, 2, 3])
        self.assertFalse(table.is_free([0, 1]))
        self.assertEqual(table.ring([0, 1]), {0: 1, 1: -1})
        self.assertEqual(table.ring([2, 3]), {2: 1, 3: 2})

    def test_a_field_can_change_a_rank(self):
        rows = [[1, 1, 0], [0, 1, 1], [1, 0, 1]]
        self.assertEqual([Rows(rows, field).rank([0, 1, 2]) for field in FIELDS], [3, 2, 3, 3, 3, 3, 3])
        rows = [[1, 0], [0, 2 * 3 * 5 * 7 * 11 * 13]]
        self.assertEqual([Rows(rows, field).rank([0, 1]) for field in FIELDS], [2, 1, 1, 1, 1, 1, 1])

    def test_integers_that_a_great_prime_divides(self):
        for prime in (2 ** 31 - 1, 2 ** 61 - 1, 2 ** 89 - 1, 10 ** 9 + 7, 998244353):
            self.assertEqual(Rows([[prime, 0], [0, prime]]).rank([0, 1]), 2)
            self.assertEqual(Rows([[1, 1], [1, prime + 1]]).rank([0, 1]), 2)

    def test_tuples_for_lists(self):
        table = Rows([[1], [2]])
        self.assertEqual((table.rank((0, 1)), table.is_free((0,)), table.hull((1,))), (1, True, [0, 1]))
        self.assertEqual(table.ring((0, 1)), {0: 2, 1: -1})

    def refused(self, place, lot, many):
        table = Rows([[1, 2]] * many)
        calls = [table.rank, table.is_free, table.hull, table.ring, lambda lot: bound([table], [3], lot)]
        for call in calls:
            with self.assertRaises(BadLot) as caught:
                call(lot)
            self.assertEqual(caught.exception.place, place)

    def test_bad_lots(self):
        for lot in NOT_LISTS + [Rows([[1]])]:
            self.refused(0, lot, 3)
        for thing in NOT_INTEGERS:
            self.refused(0, [thing, 1], 3)
            self.refused(1, [0, thing, 0], 3)
            self.refused(2, (0, 1, thing), 3)
        self.refused(0, [0], 0)
        self.refused(0, [-1], 3)
        self.refused(0, [3], 3)
        self.refused(1, [0, 3], 3)
        self.refused(1, [1, 1], 3)
        self.refused(1, [2, 0], 3)
        self.refused(2, [0, 2, 1, True], 3)
        self.refused(1, [1, -1, 2], 3)
        self.refused(60, list(range(61)), 60)
        self.refused(0, [10 ** 30], 60)


class RingTest(unittest.TestCase):

    def check_relation(self, rows, field, relation):
        numbers = list(relation.values())
        for at in range(len(rows[0])):
            total = sum(number * rows[row][at] for row, number in relation.items())
            self.assertEqual(total % field if field else total, 0)
        self.assertNotIn(0, numbers)
        if field:
            self.assertTrue(all(1 <= number < field for number in numbers))
            self.assertEqual(numbers[0], 1)
        else:
            common = 0
            for number in numbers:
                common = gcd(common, number)
            self.assertEqual(common, 1)
            self.assertGreater(numbers[0], 0)

    def test_against_all_lots(self):
        for rows, field in small_tables(13, 140, most_rows=6):
            table, ranks = Rows(rows, field), Ranks(rows, field)
            for lot in all_lots(len(rows)):
                relation = table.ring(lot)
                if ranks.is_free(lot):
                    self.assertIsNone(relation)
                    continue
                self.assertIs(type(relation), dict)
                ring = list(relation)
                self.assertEqual(ring, sorted(ring))
                self.assertLessEqual(set(ring), set(lot))
                self.assertFalse(ranks.is_free(ring))
                self.assertTrue(all(ranks.is_free(less) for less in combinations(ring, len(ring) - 1)))
                self.check_relation(rows, field, relation)

    def test_plain_relations(self):
        self.assertEqual(Rows([[6], [4]]).ring([0, 1]), {0: 2, 1: -3})
        self.assertEqual(Rows([[-6], [4]]).ring([0, 1]), {0: 2, 1: 3})
        self.assertEqual(Rows([[0, 0]]).ring([0]), {0: 1})
        self.assertEqual(Rows([[2], [3]], 5).ring([0, 1]), {0: 1, 1: 1})
        self.assertEqual(Rows([[2, 1], [3, 1], [4, 2]], 7).ring([0, 1, 2]), {0: 1, 2: 3})
        self.assertEqual(Rows([[1, 0, 0], [0, 1, 0], [2, 2, 4], [1, 1, 2]]).ring([2, 3]), {2: 1, 3: -2})


if __name__ == "__main__":
    unittest.main()
