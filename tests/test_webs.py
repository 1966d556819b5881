"""Webs and their woods (point 10)."""

import unittest
from random import Random

from brute import NOT_INTEGERS, NOT_LISTS, all_lots, is_lot
from freelots.errors import BadWeb
from freelots.lots import fewest
from freelots.rows import Rows
from freelots.webs import web_rows, woods


def is_wood(places, ties):
    """Tell whether no ties lead round, by joining parts; without rows and ranks."""
    part = list(range(places))
    for one, two in ties:
        if part[one] == part[two]:
            return False
        part = [part[one] if at == part[two] else at for at in part]
    return True


def parts_of(ties, lot):
    """Return the number of places of these ties, and of the parts that they hang together in."""
    places = sorted({place for tie in lot for place in ties[tie]})
    part = {place: place for place in places}
    for tie in lot:
        one, two = (part[place] for place in ties[tie])
        part = {place: one if at == two else at for place, at in part.items()}
    return len(places), len(set(part.values()))


def ties_of(random, places, many):
    return [(random.randrange(places), random.randrange(places)) for _ in range(many)]


def full(places):
    return [(one, two) for one in range(places) for two in range(one + 1, places)]


class WebRowsTest(unittest.TestCase):

    def rows(self, places, ties):
        table = web_rows(places, ties)
        self.assertIsInstance(table, Rows)
        self.assertEqual(table.field, 0)
        self.assertEqual(table.width, places if len(ties) > 0 else 0)
        return [table.row_at(row) for row in range(len(table))]

    def test_rows(self):
        self.assertEqual(self.rows(3, [(0, 1), (2, 0), (1, 2)]), [(1, -1, 0), (-1, 0, 1), (0, 1, -1)])
        self.assertEqual(self.rows(2, [(0, 0), (1, 1), (0, 1)]), [(0, 0), (0, 0), (1, -1)])
        self.assertEqual(self.rows(2, [(1, 0), (1, 0), (0, 1)]), [(-1, 1), (-1, 1), (1, -1)])
        self.assertEqual(self.rows(1, [(0, 0)]), [(0,)])
        self.assertEqual(self.rows(2, ((1, 0), [0, 1])), [(-1, 1), (1, -1)])

    def test_no_ties_and_no_places(self):
        for places in range(13):
            self.assertEqual(self.rows(places, []), [])
            self.assertEqual(web_rows(places, ()), Rows([]))

    def test_twelve_places_and_60_ties(self):
        ties = ties_of(Random(101), 12, 60)
        rows = self.rows(12, ties)
        self.assertEqual(len(rows), 60)
        for (one, two), row in zip(ties, rows):
            told = [0] * 12
            if one != two:
                told[one], told[two] = 1, -1
            self.assertEqual(list(row), told)
        self.assertEqual(self.rows(12, [(11, 0)]), [(-1, *[0] * 10, 1)])

    def test_free_just_if_no_ties_lead_round(self):
        random = Random(102)
        for _ in range(60):
            places = random.randint(1, 6)
            ties = ties_of(random, places, random.randint(0, 7))
            table = web_rows(places, ties)
            for lot in all_lots(len(ties)):
                self.assertEqual(table.is_free(lot), is_wood(places, [ties[tie] for tie in lot]), (ties, lot))


class WoodsTest(unittest.TestCase):

    def check(self, places, ties):
        found = woods(places, ties)
        self.assertIs(type(found), tuple)
        if any(one == two for one, two in ties):
            word, lot = found
            self.assertEqual(word, "many")
            self.assertTrue(is_lot(lot, len(ties)) and lot)
            self.assertTrue(all(ties[tie][0] == ties[tie][1] for tie in lot))
            return None
        word, lots, lot = found
        self.assertEqual(word, "lots")
        self.assertEqual(sorted(tie for wood in lots for tie in wood), list(range(len(ties))))
        for wood in lots:
            self.assertTrue(is_lot(wood, len(ties)) and is_wood(places, [ties[tie] for tie in wood]))
        if lots:
            self.assertTrue(is_lot(lot, len(ties)))
            within, parts = parts_of(ties, lot)
            self.assertGreater(len(lot), (len(lots) - 1) * (within - parts))
        else:
            self.assertEqual(lot, [])
        return len(lots)

    def test_against_all_lots_of_places(self):
        random = Random(103)
        for _ in range(150):
            places = random.randint(1, 6)
            ties = ties_of(random, places, random.randint(0, 12))
            if random.random() < 0.7:
                ties = [tie for tie in ties if tie[0] != tie[1]]
            least = 0
            for some in all_lots(places):
                if len(some) > 1:
                    within = [tie for tie in ties if tie[0] in some and tie[1] in some]
                    least = max(least, -(-len(within) // (len(some) - 1)))
            woods_told = self.check(places, ties)
            self.assertIn(woods_told, (None, least))
            self.assertEqual(woods_told is None, any(one == two for one, two in ties))

    def test_what_fewest_returns(self):
        random = Random(104)
        for _ in range(20):
            ties = ties_of(random, 5, random.randint(0, 9))
            self.assertEqual(woods(5, ties), fewest(web_rows(5, ties)))

    def test_full_webs(self):
        for places in range(2, 12):
            self.assertEqual(self.check(places, full(places)), -(-places // 2))

    def test_ends(self):
        self.assertEqual(woods(0, []), ("lots", [], []))
        self.assertEqual(woods(12, ()), ("lots", [], []))
        self.assertEqual(self.check(2, [(0, 1), (1, 0)] * 30), 60)
        self.assertEqual(self.check(2, ((0, 1), [1, 0])), 2)
        self.assertIsNone(self.check(1, [(0, 0)] * 60))
        self.assertIsNone(self.check(12, [(0, 1)] * 59 + [(11, 11)]))
        ties = [tie for tie in ties_of(Random(105), 12, 90) if tie[0] != tie[1]][:60]
        self.assertEqual(len(ties), 60)
        self.assertIsNotNone(self.check(12, ties))


class RefusedTest(unittest.TestCase):

    def refused(self, place, places, ties):
        for call in (web_rows, woods):
            with self.assertRaises(BadWeb) as caught:
                call(places, ties)
            self.assertEqual(caught.exception.place, place)

    def test_places(self):
        for places in [-1, 13, 10 ** 31, -12, *NOT_INTEGERS]:
            self.refused(-1, places, [])
            self.refused(-1, places, None)
            self.refused(-1, places, [(0, 0)] * 61)
            self.refused(-1, places, [(7, True)])

    def test_ties_that_are_no_list(self):
        for ties in NOT_LISTS:
            self.refused(0, 3, ties)

    def test_things_that_are_no_ties(self):
        things = [(0, 3), (3, 0), (-1, 0), (0, -1), (0,), (0, 1, 2), (), [], [0], (0, 10 ** 31), ((0, 1),), "01",
                  {0: 0, 1: 1}, range(2), *NOT_LISTS, *NOT_INTEGERS]
        things += [pair for thing in NOT_INTEGERS for pair in ((thing, 1), [1, thing])]
        for thing in things:
            self.refused(0, 3, [thing])
            self.refused(0, 3, [thing, thing])
            self.refused(2, 3, ((0, 0), (2, 1), thing, (0, 1)))
            self.refused(59, 3, [(0, 1)] * 59 + [thing])
        self.refused(0, 0, [(0, 0)])
        self.refused(1, 2, [(0, 1), (1, 2)])
        self.refused(0, 12, [(0, 12)])

    def test_more_than_60_ties(self):
        self.refused(60, 3, [(0, 1)] * 61)
        self.refused(60, 3, [(0, 1)] * 500)
        self.refused(60, 3, [(0, 1)] * 60 + [(0, 3)])
        for place in (0, 59, 60, 61, 499):
            ties = [(0, 1)] * 500
            ties[place] = (1, 3)
            self.refused(place, 3, ties)
            ties[place] = None
            self.refused(place, 3, tuple(ties))
        self.assertEqual(len(web_rows(3, [(0, 1)] * 60)), 60)


if __name__ == "__main__":
    unittest.main()
