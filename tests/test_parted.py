"""Partings (points 6 and 7)."""

import unittest
from random import Random

from brute import NOT_INTEGERS, Ranks, all_lots, can_be_parted, is_lot, made_of_few, rank, small_tables
from freelots.errors import BadCount
from freelots.lots import fewest, is_many, is_parting, parted
from freelots.rows import Rows


def right_parting(ranks, many, count, lots):
    if len(lots) != count or not all(is_lot(lot, many) for lot in lots):
        return False
    return sorted(row for lot in lots for row in lot) == list(range(many)) and all(map(ranks.is_free, lots))


def right_many(ranks, many, count, lot):
    return is_lot(lot, many) and len(lot) > count * ranks.rank(lot)


class PartedTest(unittest.TestCase):

    def check(self, rows, field, count):
        ranks, table = Ranks(rows, field), Rows(rows, field)
        found = parted(table, count)
        self.assertIs(type(found), tuple)
        word, told = found
        if word == "lots":
            self.assertTrue(right_parting(ranks, len(rows), count, told), (rows, field, count, told))
            self.assertTrue(is_parting(table, count, told))
        else:
            self.assertEqual(word, "many")
            self.assertTrue(right_many(ranks, len(rows), count, told), (rows, field, count, told))
            self.assertTrue(is_many(table, count, told))
        return word

    def test_against_all_lots(self):
        for rows, field in small_tables(21, 140):
            ranks = Ranks(rows, field)
            for count in range(5):
                many = any(len(lot) > count * ranks.rank(lot) for lot in all_lots(len(rows)))
                self.assertEqual(self.check(rows, field, count), "many" if many else "lots")

    def test_against_all_ways(self):
        for rows, field in small_tables(22, 50, most_rows=5):
            ranks = Ranks(rows, field)
            for count in range(4):
                can = can_be_parted(ranks, range(len(rows)), count)
                self.assertEqual(self.check(rows, field, count), "lots" if can else "many")

    def test_webs_that_just_go_or_do_not(self):
        random = Random(23)
        for places in (4, 6, 8, 10):
            ties = [(one, two) for one in range(places) for two in range(one + 1, places)]
            random.shuffle(ties)
            rows = [[int(at == one) - int(at == two) for at in range(places)] for one, two in ties]
            for field in (0, 2, 5):
                self.assertEqual(self.check(rows, field, places // 2), "lots")
                self.assertEqual(self.check(rows, field, places // 2 - 1), "many")

    def test_shuffled_tables_of_up_to_60_rows(self):
        for seed in range(24):
            random = Random(seed)
            field = (0, 2, 3, 13)[seed % 4]
            width = random.randint(3, 12)
            rows = []
            while len(rows) < 45:
                rows += made_of_few(random, random.randint(1, 15), width, random.randint(1, width), 2)
            random.shuffle(rows)
            for count in (2, 4, 5, 8):
                self.check(rows, field, count)

    def test_counts_0_and_60(self):
        self.assertEqual(parted(Rows([]), 0), ("lots", []))
        self.assertEqual(parted(Rows([]), 60), ("lots", [[]] * 60))
        self.assertEqual(self.check([[1]], 0, 0), "many")
        self.assertEqual(self.check([[1]] * 60, 0, 60), "lots")
        self.assertEqual(self.check([[1]] * 60, 0, 59), "many")
        self.assertEqual(self.check([[0]], 0, 60), "many")
        self.assertEqual(self.check([[]] * 60, 7, 60), "many")
        self.assertEqual(self.check([[1, 1]] * 30 + [[1, 2]] * 30, 0, 30), "lots")
        self.assertEqual(self.check([[1, 1]] * 31 + [[1, 2]] * 29, 0, 30), "many")

    def test_bad_counts(self):
        table = Rows([[1], [2]])
        calls = [lambda count: parted(table, count), lambda count: is_parting(table, count, [[0]]),
                 lambda count: is_many(table, count, [0])]
        for count in [-1, 61, -60, 10 ** 31, *NOT_INTEGERS]:
            for call in calls:
                with self.assertRaises(BadCount) as caught:
                    call(count)
                self.assertIs(caught.exception.count, count)


class TellingTest(unittest.TestCase):

    def test_bent_partings(self):
        table = Rows([[1, 0], [0, 1], [1, 1], [2, 2]])
        right = [[[0, 2], [1, 3]], [[1, 3], [0, 2]], [[0, 1], [2], [3]], [[0], [1], [2], [3]], ((0, 2), (1, 3)),
                 [[], [0, 3], [], [1, 2]]]
        for lots in right:
            self.assertIs(is_parting(table, len(lots), lots), True)
            self.assertIs(is_parting(table, len(lots) + 1, lots), False)
            self.assertIs(is_parting(table, len(lots) - 1, lots), False)
            self.assertIs(is_parting(table, len(lots) + 1, [*lots, []]), True)
        bent = [[[0, 1], [2, 3]], [[0, 2], [3, 1]], [[0, 2], [1]], [[0, 2], [1, 3, 3]], [[0, 2], [0, 1, 3]],
                [[0, 1], [0, 2]], [[0, 2], [1, 2]], [[0, 2], [1, 4]], [[0, 2], [-1, 3]], [[0, 2], [-3, 3]], [[], []],
                [[0, 1, 2], [3]], [[0, 2], [1, 10 ** 30]], [[0, 0], [1, 3]], [[0, 2], [1, 3, 60]],
                [[2, 0], [1, 3]]]
        for lots in bent:
            self.assertIs(is_parting(table, len(lots), lots), False)
        self.assertIs(is_parting(Rows([]), 0, []), True)
        self.assertIs(is_parting(table, 0, []), False)
        self.assertIs(is_parting(Rows([[0]]), 1, [[0]]), False)

    def test_partings_against_all_lists(self):
        rows = [[1, 0], [1, 0], [0, 1]]
        ranks, table = Ranks(rows), Rows(rows)
        lists = [[], [0], [1], [2], [0, 1], [0, 2], [1, 2], [2, 1], [0, 1, 2], [2, 2], [3], [-1]]
        for one in lists:
            for two in lists:
                self.assertEqual(is_parting(table, 2, [one, two]), right_parting(ranks, 3, 2, [one, two]))

    def test_bent_lots_that_are_too_many(self):
        table = Rows([[1, 0], [2, 0], [3, 0], [0, 1], [0, 0]])
        for count, lot in [(1, [0, 1]), (2, [0, 1, 2]), (0, [3]), (60, [4]), (1, (0, 1)), (1, [0, 1, 3])]:
            self.assertIs(is_many(table, count, lot), True)
        for count, lot in [(2, [0, 1]), (3, [0, 1, 2]), (0, []), (60, []), (1, [3]), (1, [0, 3]), (1, [1, 0]),
                           (1, [0, 0]), (0, [5]), (0, [-1]), (1, [0, 1, 9]), (0, [3, 3]), (0, [4, -1])]:
            self.assertIs(is_many(table, count, lot), False, (count, lot))

    def test_many_against_all_lots(self):
        for rows, field in small_tables(25, 30, most_rows=5):
            ranks, table = Ranks(rows, field), Rows(rows, field)
            for lot in all_lots(len(rows)):
                for count in range(4):
                    self.assertEqual(is_many(table, count, lot), right_many(ranks, len(rows), count, lot))


class FewestTest(unittest.TestCase):

    def check(self, rows, field):
        ranks, many = Ranks(rows, field), len(rows)
        found = fewest(Rows(rows, field))
        self.assertIs(type(found), tuple)
        if found[0] == "many":
            self.assertEqual(len(found), 2)
            self.assertTrue(is_lot(found[1], many) and found[1])
            self.assertEqual(ranks.rank(found[1]), 0)
            return None
        word, lots, lot = found
        self.assertEqual(word, "lots")
        self.assertTrue(right_parting(ranks, many, len(lots), lots), (rows, field, lots))
        if lots:
            self.assertTrue(right_many(ranks, many, len(lots) - 1, lot), (rows, field, lot))
        else:
            self.assertEqual(lot, [])
        return len(lots)

    def test_against_all_lots(self):
        for rows, field in small_tables(26, 140):
            ranks = Ranks(rows, field)
            lots = [lot for lot in all_lots(len(rows)) if lot]
            if any(ranks.rank(lot) == 0 for lot in lots):
                self.assertIsNone(self.check(rows, field))
            else:
                least = max([-(-len(lot) // ranks.rank(lot)) for lot in lots], default=0)
                self.assertEqual(self.check(rows, field), least)

    def test_ends(self):
        self.assertEqual(fewest(Rows([], 3)), ("lots", [], []))
        self.assertEqual(fewest(Rows([[7]])), ("lots", [[0]], [0]))
        self.assertEqual(self.check([[1]] * 60, 0), 60)
        self.assertEqual(self.check([[1, 0]] * 20 + [[0, 1]] * 40, 2), 40)
        self.assertIsNone(self.check([[]], 0))
        self.assertIsNone(self.check([[1]] * 59 + [[0]], 0))
        self.assertIsNone(self.check([[1], [26]], 13))

    def test_tables_of_up_to_60_rows(self):
        for seed in range(12):
            random = Random(seed)
            field = (0, 0, 2, 7)[seed % 4]
            width = random.randint(2, 12)
            rows = []
            while len(rows) < 40:
                rows += made_of_few(random, random.randint(1, 20), width, random.randint(1, width), 3)
            rows = [row for row in rows if rank([row], field)]
            random.shuffle(rows)
            self.assertIsNotNone(self.check(rows, field))


if __name__ == "__main__":
    unittest.main()
