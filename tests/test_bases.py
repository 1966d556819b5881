"""Bases that are apart, and exchanges between bases (points 11 and 12)."""

import unittest
from random import Random

from brute import NOT_INTEGERS, NOT_LISTS, Ranks, all_lots, is_lot, made_of_few, small_tables
from freelots.bases import apart, exchanges, most_apart, partners
from freelots.errors import BadCount, NotBase
from freelots.rows import Rows


def bases_of(ranks, many):
    """Return all bases of a table."""
    most = ranks.rank(range(many))
    return [lot for lot in all_lots(many) if len(lot) == most and ranks.is_free(lot)]


def units(width, times):
    return Rows([[int(at == place) for at in range(width)] for place in range(width) for _ in range(times)])


class ApartTest(unittest.TestCase):

    def check(self, rows, field, count):
        ranks, many = Ranks(rows, field), len(rows)
        most = ranks.rank(range(many))
        found = apart(Rows(rows, field), count)
        self.assertIs(type(found), tuple)
        word, told = found
        if word == "bases":
            self.assertEqual(len(told), count)
            self.assertTrue(all(is_lot(lot, many) and len(lot) == most and ranks.is_free(lot) for lot in told))
            together = [row for lot in told for row in lot]
            self.assertEqual(len(together), len(set(together)))
        else:
            self.assertEqual(word, "lot")
            self.assertTrue(is_lot(told, many))
            self.assertLess(many - len(told), count * (most - ranks.rank(told)))
        return word

    def test_against_the_bounds_of_all_lots(self):
        for rows, field in small_tables(111, 140):
            ranks, many = Ranks(rows, field), len(rows)
            most = ranks.rank(range(many))
            for count in range(5):
                low = any(many - len(lot) < count * (most - ranks.rank(lot)) for lot in all_lots(many))
                self.assertEqual(self.check(rows, field, count), "lot" if low else "bases")

    def test_against_all_bases(self):
        for rows, field in small_tables(112, 70, most_rows=6, most_width=3):
            bases = bases_of(Ranks(rows, field), len(rows))
            pairs = any(not set(one) & set(other) for one in bases for other in bases)
            self.assertEqual(self.check(rows, field, 2), "bases" if pairs else "lot")
            self.assertEqual(self.check(rows, field, 1), "bases")

    def test_greatest_numbers(self):
        for rows, field in small_tables(113, 140):
            ranks, many, table = Ranks(rows, field), len(rows), Rows(rows, field)
            most = ranks.rank(range(many))
            if most == 0:
                self.assertIsNone(most_apart(table))
                continue
            told = min((many - len(lot)) // (most - ranks.rank(lot)) for lot in all_lots(many)
                       if ranks.rank(lot) < most)
            self.assertEqual(most_apart(table), told)
            self.assertEqual(self.check(rows, field, told), "bases")
            self.assertEqual(self.check(rows, field, told + 1), "lot")

    def test_shuffled_tables_of_up_to_60_rows(self):
        for seed in range(12):
            random = Random(seed)
            field = (0, 2, 7)[seed % 3]
            width = random.randint(2, 12)
            rows = []
            while len(rows) < 45:
                rows += made_of_few(random, random.randint(1, 15), width, random.randint(1, width), 2)
            random.shuffle(rows)
            most = most_apart(Rows(rows, field))
            self.assertEqual(self.check(rows, field, most), "bases")
            self.assertEqual(self.check(rows, field, most + 1), "lot")

    def test_counts_0_and_60(self):
        self.assertEqual(apart(Rows([[1], [2]]), 0), ("bases", []))
        self.assertEqual(apart(Rows([]), 0), ("bases", []))
        self.assertEqual(self.check([[1]] * 60, 0, 60), "bases")
        self.assertEqual(self.check([[1]] * 59, 0, 60), "lot")
        self.assertEqual(self.check([[1]] * 59 + [[2]], 2, 60), "lot")
        self.assertEqual(self.check([[1, 0], [0, 1]], 0, 60), "lot")
        self.assertEqual(self.check([[1, 0]] * 30 + [[0, 1]] * 30, 3, 30), "bases")
        self.assertEqual(self.check([[1, 0]] * 31 + [[0, 1]] * 29, 3, 30), "lot")

    def test_tables_of_the_rank_0(self):
        for table in (Rows([]), Rows([[]] * 60), Rows([[0, 0], [0, 0]]), Rows([[2], [4]], 2)):
            self.assertIsNone(most_apart(table))
            for count in (0, 1, 3, 60):
                self.assertEqual(apart(table, count), ("bases", [[]] * count))

    def test_greatest_numbers_at_their_ends(self):
        self.assertEqual(most_apart(Rows([[1]] * 60)), 60)
        self.assertEqual(most_apart(Rows([[1]] + [[0]] * 59)), 1)
        self.assertEqual(most_apart(units(12, 5)), 5)
        self.assertEqual(most_apart(units(2, 3)), 3)
        self.assertEqual(most_apart(Rows([[1, 0], [1, 0], [1, 0], [0, 1]])), 1)
        self.assertEqual(most_apart(Rows([[1, 0], [0, 1], [1, 1], [1, 2]], 5)), 2)

    def test_bad_counts(self):
        for count in [-1, 61, -60, 10 ** 31, *NOT_INTEGERS]:
            for table in (Rows([[1], [2]]), Rows([])):
                with self.assertRaises(BadCount) as caught:
                    apart(table, count)
                self.assertIs(caught.exception.count, count)


class ExchangesTest(unittest.TestCase):

    def check(self, table, ranks, one, other):
        many = len(table)
        base = list(one)
        found = exchanges(table, one, other)
        self.assertIs(type(found), list)
        self.assertEqual(len(found), len(set(one) - set(other)))
        for step in found:
            self.assertIs(type(step), tuple)
            left, came = step
            self.assertIn(left, base)
            self.assertNotIn(left, other)
            self.assertIn(came, other)
            self.assertNotIn(came, one)
            base = sorted([row for row in base if row != left] + [came])
            self.assertTrue(is_lot(base, many) and ranks.is_free(base), (one, other, found))
        self.assertEqual(base, list(other))

    def check_partners(self, table, ranks, one, other):
        found = partners(table, one, other)
        self.assertIs(type(found), dict)
        self.assertEqual(list(found), [row for row in one if row not in other])
        self.assertEqual(sorted(found.values()), [row for row in other if row not in one])
        for row, partner in found.items():
            self.assertTrue(ranks.is_free([kept for kept in one if kept != row] + [partner]), (one, other, found))

    def test_all_pairs_of_bases(self):
        for rows, field in small_tables(121, 70, most_rows=6):
            ranks, table = Ranks(rows, field), Rows(rows, field)
            bases = bases_of(ranks, len(rows))
            for one in bases:
                for other in bases:
                    self.check(table, ranks, one, other)
                    self.check_partners(table, ranks, one, other)

    def test_rows_that_can_leave_for_few(self):
        # Each row that comes in can be exchanged for the rows behind it alone, so that most partners are forced.
        for width in range(1, 8):
            rows = [[int(at == place) for at in range(width)] for place in range(width)]
            rows += [[int(at >= place) for at in range(width)] for place in range(width)]
            for field in (0, 2, 3):
                table, ranks = Rows(rows, field), Ranks(rows, field)
                one, other = list(range(width)), list(range(width, 2 * width))
                for pair in ((one, other), (other, one)):
                    self.check(table, ranks, *pair)
                    self.check_partners(table, ranks, *pair)
                turned = Rows(rows[:width] + rows[:width - 1:-1], field)
                turned_ranks = Ranks(rows[:width] + rows[:width - 1:-1], field)
                self.check(turned, turned_ranks, one, other)
                self.check_partners(turned, turned_ranks, one, other)
        self.assertEqual(partners(Rows([[1, 0], [0, 1], [1, 1], [0, 1]]), [0, 1], [2, 3]), {0: 2, 1: 3})
        self.assertEqual(partners(Rows([[1, 0], [0, 1], [0, 1], [1, 1]]), [0, 1], [2, 3]), {0: 3, 1: 2})

    def test_the_same_base_twice(self):
        for rows, field in small_tables(122, 28):
            table = Rows(rows, field)
            for base in bases_of(Ranks(rows, field), len(rows))[:3]:
                self.assertEqual(exchanges(table, base, base), [])
                self.assertEqual(exchanges(table, tuple(base), list(base)), [])
                self.assertEqual(partners(table, base, list(base)), {})

    def test_lists_and_tuples(self):
        table = units(2, 2)
        for one in ([0, 2], (0, 2)):
            for other in ([1, 2], (1, 2)):
                self.assertEqual(exchanges(table, one, other), [(0, 1)])
                self.assertEqual(partners(table, one, other), {0: 1})
        for empty in ([], ()):
            self.assertEqual(exchanges(Rows([[0]]), empty, ()), [])
            self.assertEqual(partners(Rows([]), [], empty), {})

    def test_no_bases(self):
        table = Rows([[1, 0], [0, 1], [1, 1], [2, 2], [0, 0]])
        bad = [[], [0], [2, 3], [0, 1, 2], [1, 0], [0, 0], [0, 5], [-1, 0], [0, 4], [4], (0,), (1, 0), [0, True],
               [0, 1.0], [False, 1], ["0", "1"], [[0], [1]], [None], [0, 10 ** 31], *NOT_LISTS, *NOT_INTEGERS]
        for call in (exchanges, partners):
            for lot in bad:
                for right in ([0, 1], (1, 3)):
                    self.refused(call, lot, table, lot, right)
                    self.refused(call, lot, table, right, lot)
                for other in bad:
                    self.refused(call, lot, table, lot, other)
        for table in (Rows([]), Rows([[0]])):
            for lot in ([0], [1], None):
                self.refused(exchanges, lot, table, [], lot)
                self.refused(partners, lot, table, lot, [])

    def refused(self, call, lot, *passed):
        with self.assertRaises(NotBase) as caught:
            call(*passed)
        self.assertIs(caught.exception.lot, lot)


if __name__ == "__main__":
    unittest.main()
