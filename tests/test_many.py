"""Rows that stand in free lots many times over (point 17)."""

import unittest
from itertools import product
from random import Random

from brute import FIELDS, NOT_INTEGERS, NOT_LISTS, Ranks, all_lots, is_lot, made_of_few, one_kind, small_tables
from freelots.errors import BadCount, BadTimes
from freelots.many import fewest_many, parted_many
from freelots.rows import Rows

MOST = 10 ** 29
SEVEN = [[number // 4, number // 2 % 2, number % 2] for number in range(1, 8)]


def some_times(random, ranks, many, kind=None):
    """Return random times of one of several kinds, 0 for nought rows."""
    kind = random.randrange(6) if kind is None else kind
    if kind == 5:
        base = random.randrange(MOST // 2, MOST - 4)
        times = [base + random.randint(0, 4) for _ in range(many)]
    else:
        high = (1, 3, 12, 10 ** 6, MOST)[kind]
        times = [random.randint(0, high) if random.random() < 0.9 else 0 for _ in range(many)]
    return [number if ranks.rank([row]) else 0 for row, number in enumerate(times)]


class ManyTest(unittest.TestCase):

    def check(self, ranks, times, count):
        many = len(times)
        found = parted_many(Rows(ranks.rows, ranks.field), times, count)
        self.assertIs(type(found), tuple)
        word, told = found
        self.assertIs(type(told), list)
        if word == "lots":
            self.check_pairs(ranks, times, count, told)
        else:
            self.assertEqual(word, "lot")
            self.assertTrue(is_lot(told, many))
            self.assertGreater(sum(times[row] for row in told), count * ranks.rank(told))
        return word

    def check_pairs(self, ranks, times, count, pairs):
        many = len(times)
        self.assertLessEqual(len(pairs), 2 * many + 2)
        lots = []
        for pair in pairs:
            self.assertIs(type(pair), tuple)
            lot, number = pair
            self.assertTrue(lot and is_lot(lot, many) and ranks.is_free(lot))
            self.assertIs(type(number), int)
            self.assertGreaterEqual(number, 1)
            lots.append(lot)
        self.assertEqual(lots, sorted(lots))
        self.assertEqual(len(lots), len(set(map(tuple, lots))))
        self.assertLessEqual(sum(number for _, number in pairs), count)
        for row in range(many):
            self.assertEqual(sum(number for lot, number in pairs if row in lot), times[row])

    def least(self, ranks, times):
        """Return the least number of lots by the times of all lots."""
        told = [(sum(times[row] for row in lot), ranks.rank(lot)) for lot in all_lots(len(times))]
        if any(total > 0 and rank == 0 for total, rank in told):
            return None
        return max([-(-total // rank) for total, rank in told if rank], default=0)

    def check_all(self, ranks, times):
        """Check the least number, and what can be done with it, with one less and with more."""
        least = self.least(ranks, times)
        found = fewest_many(Rows(ranks.rows, ranks.field), times)
        self.assertEqual(found, least)
        if least is None:
            for count in (0, 1, MOST):
                self.assertEqual(self.check(ranks, times, count), "lot")
            return
        self.assertIs(type(found), int)
        for count in (least - 1, least, least + 1, 2 * least + 3, MOST):
            if 0 <= count <= MOST:
                self.assertEqual(self.check(ranks, times, count), "lots" if count >= least else "lot")

    def test_against_the_bounds_of_all_lots(self):
        random = Random(171)
        for rows, field in small_tables(171, 210, most_width=5):
            ranks = Ranks(rows, field)
            self.check_all(ranks, some_times(random, ranks, len(rows)))

    def test_against_all_ways(self):
        random = Random(172)
        for _ in range(60):
            field = random.choice(FIELDS)
            rows = one_kind(random, random.randrange(4), random.randint(1, 3), random.randint(1, 3))
            ranks = Ranks(rows, field)
            lots = [lot for lot in all_lots(len(rows)) if ranks.is_free(lot)]
            for count in range(4):
                can = {tuple(sum(row in lot for lot in some) for row in range(len(rows)))
                       for some in product(lots, repeat=count)}
                for times in product(range(count + 2), repeat=len(rows)):
                    self.assertEqual(self.check(ranks, times, count), "lots" if times in can else "lot")

    def test_tables_of_ten_rows(self):
        random = Random(173)
        for at in range(21):
            field = FIELDS[at % 7]
            width = random.randint(2, 9)
            rows = made_of_few(random, 10, width, random.randint(2, width), 1)
            if at % 3 == 0:
                rows = [list(random.choice(rows[:6])) for _ in range(10)]
            ranks = Ranks(rows, field)
            for kind in (at % 6, 5):
                self.check_all(ranks, some_times(random, ranks, 10, kind))

    def test_webs_of_ten_ties(self):
        random = Random(174)
        for places in (4, 5, 6, 7, 11):
            ties = [random.sample(range(places), 2) for _ in range(10)]
            ranks = Ranks([[int(at == one) - int(at == two) for at in range(places)] for one, two in ties])
            for kind in range(6):
                self.check_all(ranks, some_times(random, ranks, 10, kind))

    def test_lots_that_would_best_be_taken_half_times(self):
        rows = [[0, 1, 2, 0], [0, 2, 0, 2], [0, 0, 2, 2], [0, 1, 2, 1], [0, 1, 1, 2], [0, 0, 2, 0], [0, 0, 2, 1]]
        times = [2, 1, 2, 1, 0, 1, 2]
        for scale in (1, 2, 3, 10 ** 5 + 1, 5 * 10 ** 28 - 1):
            ranks = Ranks(rows, 3)
            self.check_all(ranks, [scale * number for number in times])
            self.check_all(ranks, [scale * number + (number > 1) for number in times])
        rows = [[6, 12, 9, 10], [6, 5, 4, 7], [7, 5, 3, 1], [11, 11, 2, 0], [6, 8, 11, 12], [3, 5, 11, 12],
                [6, 12, 7, 10]]
        self.check_all(Ranks(rows, 13), [20, 14, 10, 52, 51, 63, 45])
        self.assertEqual(self.check(Ranks(rows, 13), [20, 14, 10, 52, 51, 63, 45], 86), "lots")

    def test_times_at_their_ends(self):
        two = [[1, 0], [0, 1]]
        self.check_all(Ranks(two), [MOST, MOST])
        self.check_all(Ranks(two), [MOST, MOST - 1])
        self.check_all(Ranks(SEVEN, 2), [MOST // 3] * 7)
        self.assertEqual(parted_many(Rows(two), [MOST, MOST], MOST), ("lots", [([0, 1], MOST)]))
        self.assertEqual(parted_many(Rows([[1], [1]]), [MOST, 0], MOST), ("lots", [([0], MOST)]))
        self.assertEqual(parted_many(Rows([[1], [1]]), [MOST, 1], MOST), ("lot", [0, 1]))
        self.assertEqual(parted_many(Rows([[1], [1]]), [MOST - 1, 1], MOST),
                         ("lots", [([0], MOST - 1), ([1], 1)]))
        self.assertEqual(parted_many(Rows([[1], [1]]), [1, 1], 0)[0], "lot")

    def test_times_of_0(self):
        for rows, field in small_tables(175, 28):
            for count in (0, 1, MOST):
                self.assertEqual(parted_many(Rows(rows, field), [0] * len(rows), count), ("lots", []))
            self.assertEqual(fewest_many(Rows(rows, field), (0,) * len(rows)), 0)
        self.assertEqual(parted_many(Rows([[1], [0], [2]]), (2, 0, 0), 2), ("lots", [([0], 2)]))

    def test_nought_rows(self):
        for rows, field in (([[1], [0], [2]], 0), ([[1], [3], [2]], 3), ([[]] * 3, 5), ([[0, 0]] * 3, 0)):
            table = Rows(rows, field)
            for times in ([0, 1, 0], [1, MOST, 2], [0, MOST, 0]):
                self.assertIsNone(fewest_many(table, times))
                self.assertEqual(self.check(Ranks(rows, field), times, MOST), "lot")
        self.assertEqual(fewest_many(Rows([[1], [0], [2]]), [3, 0, 4]), 7)
        self.assertEqual(fewest_many(Rows([[1], [3], [2]], 3), [MOST, 0, MOST]), 2 * MOST)

    def test_fewest_above_the_greatest_count(self):
        self.assertEqual(fewest_many(Rows([[1]] * 10), [MOST] * 10), 10 * MOST)
        self.assertEqual(fewest_many(Rows([[1, 0]] * 4 + [[0, 1]] * 6), [MOST] * 10), 6 * MOST)
        self.assertEqual(fewest_many(Rows(SEVEN, 2), [MOST] * 7), -(-7 * MOST // 3))
        self.assertEqual(fewest_many(Rows(SEVEN, 2), [10 ** 20] * 7), 233333333333333333334)
        self.check_all(Ranks([[1]] * 10), [MOST] * 10)

    def test_plain_times(self):
        self.assertEqual(parted_many(Rows([]), [], 0), ("lots", []))
        self.assertEqual(parted_many(Rows([]), (), MOST), ("lots", []))
        self.assertEqual(fewest_many(Rows([]), []), 0)
        three = Rows([[1, 0], [0, 1], [1, 1]])
        self.assertEqual(fewest_many(three, [1, 1, 1]), 2)
        self.assertEqual(fewest_many(three, [5, 1, 1]), 5)
        self.assertEqual(parted_many(three, [2, 2, 2], 3),
                         ("lots", [([0, 1], 1), ([0, 2], 1), ([1, 2], 1)]))
        self.assertEqual(parted_many(three, [2, 2, 2], 2), ("lot", [0, 1, 2]))
        self.assertEqual(parted_many(three, [3, 0, 0], 2), ("lot", [0]))


class RefusedTest(unittest.TestCase):

    def refused(self, index, table, times):
        for count in (0, 1, MOST, -1, None, True):
            with self.assertRaises(BadTimes) as caught:
                parted_many(table, times, count)
            self.assertEqual(caught.exception.index, index)
        with self.assertRaises(BadTimes) as caught:
            fewest_many(table, times)
        self.assertEqual(caught.exception.index, index)

    def test_bad_times(self):
        table = Rows([[1], [2]])
        for times in [*NOT_LISTS, [], [1], (1,), [1, 2, 3], (1, 2, 3), [None], [1, 2, None]]:
            self.refused(0, table, times)
        for thing in [-1, MOST + 1, -MOST, 10 ** 31, *NOT_INTEGERS]:
            self.refused(0, table, [thing, thing])
            self.refused(1, table, [0, thing])
            self.refused(1, table, (MOST, thing))
        self.refused(0, Rows([]), [1])
        self.refused(0, Rows([]), None)
        self.refused(9, Rows([[1]] * 10), [MOST] * 9 + [MOST + 1])

    def test_bad_counts(self):
        for table, times in ((Rows([[1], [2]]), [0, MOST]), (Rows([]), []), (Rows([[0]]), (1,))):
            for count in [-1, MOST + 1, -MOST, 10 ** 31, *NOT_INTEGERS]:
                with self.assertRaises(BadCount) as caught:
                    parted_many(table, times, count)
                self.assertIs(caught.exception.count, count)


if __name__ == "__main__":
    unittest.main()
