"""Tables (point 2): what they hold, what they refuse, and what they are equal to."""

import unittest
from random import Random

from brute import FIELDS, NOT_INTEGERS, NOT_LISTS, big_row
from freelots.errors import BadField, BadRows, NoRow
from freelots.live import Keeper
from freelots.rows import Rows


def told(table):
    return [table.row_at(row) for row in range(len(table))]


class TableTest(unittest.TestCase):

    def refused(self, place, rows, field=0):
        with self.assertRaises(BadRows) as caught:
            Rows(rows, field)
        self.assertEqual(caught.exception.row, place)

    def test_ordinary(self):
        table = Rows([[1, -2, 3], [4, 5, -6]])
        self.assertEqual((table.field, table.width, len(table)), (0, 3, 2))
        self.assertEqual(told(table), [(1, -2, 3), (4, 5, -6)])

    def test_all_widths_with_30_figures(self):
        random = Random(1)
        for width in range(13):
            rows = [big_row(random, width) for _ in range(5)]
            for field in FIELDS:
                table = Rows(rows, field)
                self.assertEqual((table.field, table.width, len(table)), (field, width, 5))
                for row in range(5):
                    numbers = [number % field for number in rows[row]] if field else rows[row]
                    self.assertEqual(table.row_at(row), tuple(numbers))
                    self.assertIsInstance(table.row_at(row), tuple)

    def test_integers_told_with_a_prime(self):
        self.assertEqual(told(Rows([[-1, 0, 1, 2, 3, -10 ** 29]], 3)), [(2, 0, 1, 2, 0, 2)])
        self.assertEqual(told(Rows([[-1, 2, 5, 13, 14, -14]], 13)), [(12, 2, 5, 0, 1, 12)])

    def test_many_rows(self):
        for many in (0, 1, 59, 60):
            self.assertEqual(len(Rows([[1]] * many)), many)
            self.assertEqual(Rows([[1, 2]] * many).width, 2 if many else 0)
        self.refused(60, [[1]] * 61)
        self.refused(60, [[1]] * 100)

    def test_more_than_30_figures(self):
        self.assertEqual(Rows([[10 ** 400]]).row_at(0), (10 ** 400,))

    def test_tuples_for_lists(self):
        self.assertEqual(Rows(((1, 2), [3, 4])), Rows([[1, 2], [3, 4]]))
        self.assertEqual(Rows(((), ())).width, 0)

    def test_all_fields(self):
        for field in FIELDS:
            self.assertEqual(Rows([[1]], field).field, field)
            self.assertEqual(Rows([], field).field, field)

    def test_bad_field(self):
        for field in [1, 4, 6, 8, 9, 10, 12, 14, 17, 19, -2, -1, 2 ** 31 - 1, 10 ** 31, 0.0, 2.0, *NOT_INTEGERS]:
            with self.assertRaises(BadField) as caught:
                Rows([[1]], field)
            self.assertIs(caught.exception.number, field)

    def test_bad_field_ahead_of_bad_rows(self):
        for rows in (None, [[True]], [[1], [1, 2]], [[1]] * 61):
            with self.assertRaises(BadField):
                Rows(rows, 4)

    def test_no_list_of_rows(self):
        for rows in NOT_LISTS + [Rows([[1]]), Rows([])]:
            self.refused(0, rows)

    def test_no_list_as_a_row(self):
        for thing in NOT_LISTS + [Rows([])]:
            self.refused(0, [thing])
            self.refused(1, [[1, 2], thing, [1, 2]])
            self.refused(2, [[], [], thing])

    def test_no_integer_in_a_row(self):
        for thing in NOT_INTEGERS:
            for field in (0, 2):
                self.refused(0, [[thing]], field)
                self.refused(2, [[1, 2], [3, 4], (5, thing), [thing]], field)

    def test_other_widths(self):
        self.refused(1, [[1], []])
        self.refused(1, [[], [1]])
        self.refused(2, [[1, 2], [1, 2], [1, 2, 3], [1]])
        self.refused(0, [[1] * 13])
        self.refused(0, [[1] * 13, [1]])
        self.refused(1, [[1] * 12, [1] * 13])
        self.assertEqual(Rows([[1] * 12]).width, 12)

    def test_first_bad_row_ahead_of_too_many(self):
        self.refused(61, [[1]] * 61 + [[True]])
        self.refused(99, [[1]] * 99 + [None])
        self.refused(3, [[1]] * 3 + [[1, 2]] * 70)
        self.refused(0, [[1] * 13] * 61)

    def test_no_row(self):
        for table in (Rows([[1], [2], [3]]), Rows([]), Rows([[1]] * 60)):
            for row in [-1, len(table), 60, -60, 10 ** 30, -10 ** 30, *NOT_INTEGERS]:
                with self.assertRaises(NoRow) as caught:
                    table.row_at(row)
                self.assertIs(caught.exception.row, row)


class EqualTest(unittest.TestCase):

    def same(self, one, other):
        self.assertTrue(one == other)
        self.assertFalse(one != other)

    def unlike(self, one, other):
        self.assertFalse(one == other)
        self.assertTrue(one != other)
        self.assertFalse(other == one)
        self.assertTrue(other != one)

    def test_same(self):
        self.same(Rows([[1, 2]]), Rows(((1, 2),)))
        self.same(Rows([]), Rows([]))
        self.same(Rows([[5, -1]], 3), Rows([[2, 2]], 3))
        self.same(Rows([[], []], 7), Rows([[], []], 7))
        table = Rows([[1]])
        self.same(table, table)

    def test_unlike_tables(self):
        self.unlike(Rows([[1, 2]]), Rows([[1, 3]]))
        self.unlike(Rows([[5, -1]]), Rows([[2, 2]]))
        self.unlike(Rows([[1], [2]]), Rows([[2], [1]]))
        self.unlike(Rows([[1]]), Rows([[1], [1]]))
        self.unlike(Rows([[1]]), Rows([[1]], 2))
        self.unlike(Rows([], 2), Rows([], 3))
        self.unlike(Rows([[]]), Rows([]))
        self.unlike(Rows([[1, 2]]), Rows([[2, 4]]))

    def test_other_kinds(self):
        table = Rows([[1]])
        for other in [[[1]], ((1,),), 0, None, "field 0\n1", table.text(), True, {}, object(), Rows, Keeper(table, 1)]:
            self.unlike(table, other)
        self.unlike(Rows([]), [])
        self.unlike(Rows([]), ())


if __name__ == "__main__":
    unittest.main()
