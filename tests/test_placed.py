"""Placings of things in several tables (point 8)."""

import unittest
from itertools import product
from random import Random

from brute import FIELDS, NOT_INTEGERS, NOT_LISTS, Ranks, all_lots, is_lot, one_kind
from freelots.errors import BadLot, BadSizes, BadTables
from freelots.lots import bound, is_placing, placed
from freelots.rows import Rows


def several(seed, most_things=6, most_tables=3, most_size=4):
    """Return the ranks of random tables of the same things, and sizes."""
    random = Random(seed)
    things = random.randint(0, most_things)
    ranks = []
    for _ in range(random.randint(1, most_tables)):
        rows = one_kind(random, random.randrange(4), things, random.randint(1, 4))
        ranks.append(Ranks(rows, random.choice(FIELDS)))
    return things, ranks, [random.randint(0, most_size) for _ in ranks]


def tables_of(ranks):
    return [Rows(one.rows, one.field) for one in ranks]


def bound_of(things, ranks, sizes, lot):
    return things - len(lot) + sum(min(size, one.rank(lot)) for one, size in zip(ranks, sizes))


def right_placing(things, ranks, sizes, lots):
    if len(lots) != len(ranks) or not all(is_lot(lot, things) for lot in lots):
        return False
    rows = [row for lot in lots for row in lot]
    if len(rows) != len(set(rows)):
        return False
    return all(one.is_free(lot) and len(lot) <= size for one, lot, size in zip(ranks, lots, sizes))


class PlacedTest(unittest.TestCase):

    def check(self, things, ranks, sizes):
        found = placed(tables_of(ranks), sizes)
        self.assertIs(type(found), tuple)
        lots, lot = found
        self.assertTrue(right_placing(things, ranks, sizes, lots), (lots, sizes))
        self.assertTrue(is_lot(lot, things))
        many = sum(len(one) for one in lots)
        self.assertEqual(bound_of(things, ranks, sizes, lot), many)
        self.assertIs(is_placing(tables_of(ranks), sizes, lots), True)
        self.assertEqual(bound(tables_of(ranks), sizes, lot), many)
        return many

    def test_against_all_lots(self):
        for seed in range(200):
            things, ranks, sizes = several(seed)
            least = min(bound_of(things, ranks, sizes, lot) for lot in all_lots(things))
            self.assertEqual(self.check(things, ranks, sizes), least)

    def test_against_all_ways(self):
        for seed in range(60):
            things, ranks, sizes = several(1000 + seed, 5, 2)
            most = 0
            for places in product(range(-1, len(ranks)), repeat=things):
                lots = [[row for row in range(things) if places[row] == at] for at in range(len(ranks))]
                if right_placing(things, ranks, sizes, lots):
                    most = max(most, sum(len(lot) for lot in lots))
            self.assertEqual(self.check(things, ranks, sizes), most)

    def test_many_things_in_twelve_tables(self):
        for seed in range(6):
            random = Random(seed)
            things = random.choice((50, 60))
            ranks = [Ranks(one_kind(random, random.randrange(4), things, random.randint(0, 6) or 12),
                           random.choice(FIELDS)) for _ in range(12)]
            for sizes in ([60] * 12, [5] * 12, [0] * 12, [random.randint(0, 8) for _ in range(12)]):
                self.check(things, ranks, sizes)

    def test_unlike_widths_and_sizes(self):
        ranks = [Ranks([[]] * 4), Ranks([[1]] * 4, 2), Ranks([[1, 2, 3], [4, 5, 6], [7, 8, 9], [0, 0, 1]])]
        self.assertEqual(self.check(4, ranks, [60, 60, 60]), 4)
        self.assertEqual(self.check(4, ranks, [60, 60, 2]), 3)
        self.assertEqual(self.check(4, ranks, [60, 0, 60]), 3)
        self.assertEqual(self.check(4, ranks, [1, 0, 0]), 0)

    def test_sizes_at_their_ends(self):
        rows = [[at ** power for power in range(3)] for at in range(60)]
        self.assertEqual(self.check(60, [Ranks(rows)], [60]), 3)
        self.assertEqual(self.check(60, [Ranks(rows)] * 12, [60] * 12), 36)
        self.assertEqual(self.check(60, [Ranks(rows)] * 12, [2] * 12), 24)
        self.assertEqual(self.check(60, [Ranks(rows)], [0]), 0)
        self.assertEqual(placed([Rows([])], [60]), ([[]], []))

    def test_tuples_for_lists(self):
        table = Rows([[1], [2]])
        self.assertEqual(sum(len(lot) for lot in placed((table, table), (1, 1))[0]), 2)
        self.assertIs(is_placing((table, table), (1, 1), ((0,), (1,))), True)
        self.assertEqual(bound((table, table), (1, 1), (0, 1)), 2)


class TellingTest(unittest.TestCase):

    def test_bounds_against_all_lots(self):
        for seed in range(40):
            things, ranks, sizes = several(seed, 5)
            for lot in all_lots(things):
                self.assertEqual(bound(tables_of(ranks), sizes, lot), bound_of(things, ranks, sizes, lot))

    def test_bent_placings(self):
        tables = [Rows([[1, 0], [2, 0], [0, 1], [1, 1]]), Rows([[1], [1], [1], [0]], 2)]
        for lots in ([[0, 2], [1]], [[], []], [[2, 3], [0]], ((0, 3), (2,)), [[0], []], [[], [2]]):
            self.assertIs(is_placing(tables, [2, 1], lots), True)
        bent = [[[0, 2]], [[0, 2], [1], []], [[0, 1], [2]], [[0, 2], [2]], [[0, 2], [3]], [[2, 0], [1]], [],
                [[0, 0], [1]], [[0, 4], [1]], [[-1, 2], [1]], [[0, 2], [0, 1]], [[0, 2], [1, 1]], [[0, 2], [-4]]]
        for lots in bent:
            self.assertIs(is_placing(tables, [2, 1], lots), False, lots)
        self.assertIs(is_placing(tables, [1, 1], [[0, 2], [1]]), False)
        self.assertIs(is_placing(tables, [2, 0], [[0, 2], [1]]), False)
        self.assertIs(is_placing(tables, [2, 0], [[0, 2], []]), True)

    def test_placings_against_all_lists(self):
        lists = [[], [0], [1], [2], [0, 1], [0, 2], [1, 2], [2, 1], [0, 1, 2], [2, 2], [3], [-1]]
        ranks = [Ranks([[1, 0], [1, 0], [0, 1]]), Ranks([[1], [2], [3]], 3)]
        for sizes in ([2, 1], [1, 2], [60, 0]):
            for lots in product(lists, repeat=2):
                told = is_placing(tables_of(ranks), sizes, list(lots))
                self.assertEqual(told, right_placing(3, ranks, sizes, lots))


class RefusedTest(unittest.TestCase):

    def refused(self, error, place, tables, sizes, lot=()):
        calls = [lambda: bound(tables, sizes, lot)]
        if error is not BadLot:
            calls += [lambda: placed(tables, sizes), lambda: is_placing(tables, sizes, [[]])]
        for call in calls:
            with self.assertRaises(error) as caught:
                call()
            self.assertEqual(caught.exception.place, place)

    def test_bad_tables(self):
        one, two, other = Rows([[1], [2]]), Rows([[1, 2], [3, 4]], 5), Rows([[1]])
        for thing in NOT_LISTS + [one]:
            self.refused(BadTables, 0, thing, [1])
        self.refused(BadTables, 0, [], [])
        self.refused(BadTables, 0, [one] * 13, [1] * 13)
        self.refused(BadTables, 0, [one] * 12 + [None], [1] * 13)
        for thing in NOT_INTEGERS + [other, [[1], [2]], ((1,), (2,)), 2, Rows, "field 0\n1\n2", Rows([])]:
            self.refused(BadTables, 1, [one, thing, None], [1, 1, 1])
            self.refused(BadTables, 2, (one, two, thing), [1, 1, 1])
        for thing in NOT_INTEGERS + [[[1], [2]], 2]:
            self.refused(BadTables, 0, [thing, thing], [1, 1])
        self.refused(BadTables, 11, [one] * 11 + [other], [1] * 12)

    def test_bad_sizes(self):
        table = Rows([[1], [2]])
        for thing in NOT_LISTS + [table]:
            self.refused(BadSizes, 0, [table] * 2, thing)
        for sizes in ([], [1], [1, 1, 1], (), (1,), [1, 1, None]):
            self.refused(BadSizes, 0, [table] * 2, sizes)
        for thing in [-1, 61, 10 ** 30, *NOT_INTEGERS]:
            self.refused(BadSizes, 0, [table] * 2, [thing, thing])
            self.refused(BadSizes, 1, [table] * 3, (60, thing, -1))
            self.refused(BadSizes, 2, [table] * 3, [0, 60, thing])

    def test_order(self):
        table = Rows([[1], [2]])
        self.refused(BadTables, 0, None, None, None)
        self.refused(BadTables, 1, [table, None], [-1], [7])
        self.refused(BadTables, 1, [table, Rows([[1]])], [-1, True], [7])
        self.refused(BadSizes, 0, [table], None, [7])
        self.refused(BadSizes, 0, [table], [-1], None)
        self.refused(BadLot, 0, [table], [1], None)
        self.refused(BadLot, 1, [table], [1], [1, 2])
        self.refused(BadLot, 1, [table], [1], [1, 0])


if __name__ == "__main__":
    unittest.main()
