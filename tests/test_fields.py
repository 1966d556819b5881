"""Lots that are free over the fractions, but not modulo a prime (point 20)."""

import unittest
from random import Random

from brute import FIELDS, NOT_INTEGERS, NOT_LISTS, Ranks, all_lots, made_of_few, small_tables
from freelots.errors import BadPrime, NotWhole
from freelots.fields import spoilt
from freelots.rows import Rows

PRIMES = [number for number in range(2, 1000) if all(number % low for low in range(2, number))]


def first_spoilt(rows, prime):
    whole, broken = Ranks(rows), Ranks(rows, prime)
    for lot in all_lots(len(rows)):
        if whole.is_free(lot) and not broken.is_free(lot):
            return lot
    return None


class SpoiltTest(unittest.TestCase):

    def test_against_all_lots(self):
        random = Random(201)
        told = 0
        for rows, _ in small_tables(201, 112, most_width=5):
            for prime in {2, 3, random.choice(FIELDS[1:]), random.choice((17, 19, 31)), random.choice(PRIMES), 997}:
                lot = first_spoilt(rows, prime)
                self.assertEqual(spoilt(Rows(rows), prime), lot)
                told += lot is not None
        self.assertGreater(told, 100)

    def test_tables_of_twelve_rows(self):
        random = Random(202)
        for prime in (2, 3, 7, 101, 997):
            rows = made_of_few(random, 12, 4, 3, 6)
            self.assertEqual(spoilt(Rows(rows), prime), first_spoilt(rows, prime))

    def test_each_prime(self):
        for prime in PRIMES:
            self.assertEqual(spoilt(Rows([[1], [prime]]), prime), [1])
            self.assertEqual(spoilt(Rows([[1, 0], [0, 1], [1, prime]]), prime), [0, 2])
            self.assertIsNone(spoilt(Rows([[1, 0], [0, 1], [1, prime - 1]]), prime))

    def test_the_order_of_lots(self):
        self.assertEqual(spoilt(Rows([[1, 1], [1, -1], [0, 2]]), 2), [2])
        self.assertEqual(spoilt(Rows([[1, 1], [1, -1], [0, 1]]), 2), [0, 1])
        self.assertEqual(spoilt(Rows([[1, 0, 0], [0, 1, 1], [0, 1, -1], [1, 3, 1]]), 2), [1, 2])
        self.assertEqual(spoilt(Rows([[1, 0], [1, 3], [0, 1], [1, 6]]), 3), [0, 1])
        self.assertEqual(spoilt(Rows([[0, 1, 1], [1, 0, 1], [1, 1, 0], [1, 1, 2]]), 2), [2, 3])
        self.assertEqual(spoilt(Rows([[0, 1, 1], [1, 0, 1], [1, 1, 0], [1, 1, 1]]), 2), [0, 1, 2])

    def test_webs_are_spoilt_by_none(self):
        ties = [(one, two) for one in range(4) for two in range(one + 1, 4)]
        rows = [[int(at == one) - int(at == two) for at in range(4)] for one, two in ties]
        for prime in (2, 3, 5, 7, 11, 13, 997):
            self.assertIsNone(spoilt(Rows(rows), prime))

    def test_great_integers(self):
        for prime in (2, 13, 17, 997):
            great = 10 ** 29 - 10 ** 29 % prime
            self.assertEqual(spoilt(Rows([[1, 7], [great, great]]), prime), [1])
            self.assertEqual(spoilt(Rows([[great + 1, 3], [1, great + 3]]), prime), [0, 1])
            self.assertIsNone(spoilt(Rows([[great + 1, 3], [1, great + 4]]), prime))
            self.assertIsNone(spoilt(Rows([[-great, -great - 1], [great - 1, great]]), prime))

    def test_rows_that_are_not_free_over_the_fractions(self):
        for rows in ([], [[]], [[]] * 12, [[0]], [[0, 0], [0, 0]], [[1], [0]]):
            self.assertIsNone(spoilt(Rows(rows), 2))
        self.assertIsNone(spoilt(Rows([[1, 1], [2, 2], [3, 3]]), 7))
        self.assertEqual(spoilt(Rows([[1, 1], [2, 2], [3, 3]]), 2), [1])


class RefusedTest(unittest.TestCase):

    def refused(self, prime):
        for rows in ([], [[2]], [[1, 0], [0, 1]]):
            with self.assertRaises(BadPrime) as caught:
                spoilt(Rows(rows), prime)
            self.assertIs(caught.exception.prime, prime)

    def test_no_primes(self):
        for prime in [0, 1, -1, -2, -7, 4, 6, 8, 9, 15, 25, 49, 91, 121, 169, 529, 899, 961, 989, 993, 999, 1000]:
            self.refused(prime)
        for prime in range(-20, 1001):
            if prime not in PRIMES:
                self.refused(prime)

    def test_great_numbers(self):
        for prime in (1000, 1009, 1013, 2 ** 31 - 1, 10 ** 31, -10 ** 31, 997 * 997):
            self.refused(prime)

    def test_other_objects(self):
        for prime in [*NOT_INTEGERS, *NOT_LISTS, [2], (2,), 2.0, "2", 3 + 0j]:
            self.refused(prime)

    def test_tables_that_are_not_whole(self):
        for field in FIELDS[1:]:
            for prime in [2, 997, field, 0, 1, 1000, None, True, "2", [2]]:
                for rows in ([], [[1]]):
                    with self.assertRaises(NotWhole):
                        spoilt(Rows(rows, field), prime)


if __name__ == "__main__":
    unittest.main()
