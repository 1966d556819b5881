"""Keepers (point 9)."""

import unittest
from itertools import product
from random import Random

from brute import NOT_INTEGERS, Ranks, is_lot, small_tables
from freelots.errors import BadCount, NoDeed, NoRow, TooMany
from freelots.live import Keeper
from freelots.rows import Rows


def places_of(lots):
    return {row: place for place, lot in enumerate(lots) for row in lot}


def free_ways(ranks, rows, count):
    """Return all ways to put rows into free lots, as dicts from the rows to their places."""
    ways = []
    for places in product(range(count), repeat=len(rows)):
        lots = [[row for row, place in zip(rows, places) if place == at] for at in range(count)]
        if all(ranks.is_free(lot) for lot in lots):
            ways.append(dict(zip(rows, places)))
    return ways


def moves(old, new):
    return sum(1 for row in new if old.get(row) != new[row])


def nearest_ways(ranks, old, row, count):
    """Return all ways by which a row comes and the fewest rows are in another lot."""
    ways = free_ways(ranks, sorted([*old, row]), count)
    least = min((moves(old, way) for way in ways), default=None)
    return [way for way in ways if moves(old, way) == least]


class Watched:
    """A keeper, of which each deed is checked against all ways there are."""

    def __init__(self, test, rows, field, count):
        self.test = test
        self.ranks = Ranks(rows, field)
        self.keeper = Keeper(Rows(rows, field), count)
        self.done = [self.keeper.lots()]
        self.undone = []

    def check(self):
        lots = self.keeper.lots()
        for lot in lots:
            self.test.assertTrue(is_lot(lot, len(self.ranks.rows)) and self.ranks.is_free(lot))
        self.test.assertEqual(len(places_of(lots)), sum(len(lot) for lot in lots))

    def deed(self, call, *passed):
        """Do a deed; return what it returned, or the lot for which it was refused; and the lots ahead and behind."""
        old = self.keeper.lots()
        try:
            told = call(*passed)
        except TooMany as error:
            self.test.assertEqual(self.keeper.lots(), old)
            return error, old, old
        self.check()
        self.done.append(self.keeper.lots())
        self.undone = []
        return told, old, self.keeper.lots()

    def check_refused(self, error, rows, count):
        """Check the lot of an error: it is of these rows, and is too many."""
        self.test.assertTrue(is_lot(error.lot, len(self.ranks.rows)))
        self.test.assertLessEqual(set(error.lot), set(rows))
        self.test.assertGreater(len(error.lot), count * self.ranks.rank(error.lot))

    def check_moved(self, told, old, new):
        self.test.assertIs(type(told), dict)
        self.test.assertEqual(list(told), sorted(told))
        self.test.assertEqual(told, {row: new[row] for row in new if old.get(row) != new[row]})

    def come(self, row):
        told, before, after = self.deed(self.keeper.come, row)
        old, new = places_of(before), places_of(after)
        ways = nearest_ways(self.ranks, old, row, len(before))
        if isinstance(told, TooMany):
            self.test.assertEqual(ways, [])
            self.check_refused(told, [*old, row], len(before))
            return
        self.check_moved(told, old, new)
        self.test.assertIn(row, told)
        self.test.assertIn(new, ways)

    def go(self, row):
        told, before, after = self.deed(self.keeper.go, row)
        self.test.assertIn(row, before[told])
        before[told].remove(row)
        self.test.assertEqual(after, before)

    def more(self):
        told, before, after = self.deed(self.keeper.more)
        self.test.assertEqual(told, len(before))
        self.test.assertEqual(after, before + [[]])

    def less(self, place):
        told, before, after = self.deed(self.keeper.less, place)
        rest = before[:place] + before[place + 1:]
        ways = [places_of(rest)]
        for row in before[place]:
            ways = [way for old in ways for way in nearest_ways(self.ranks, old, row, len(rest))]
            ways = [dict(way) for way in {tuple(sorted(way.items())) for way in ways}]
        if isinstance(told, TooMany):
            self.test.assertEqual(ways, [])
            self.check_refused(told, places_of(before), len(rest))
            return
        self.test.assertEqual(len(after), len(rest))
        self.check_moved(told, places_of(rest), places_of(after))
        self.test.assertLessEqual(set(before[place]), set(told))
        self.test.assertIn(places_of(after), ways)

    def undo(self):
        if len(self.done) == 1:
            self.test.assertRaises(NoDeed, self.keeper.undo)
        else:
            self.test.assertIsNone(self.keeper.undo())
            self.undone.append(self.done.pop())
        self.test.assertEqual(self.keeper.lots(), self.done[-1])

    def again(self):
        if not self.undone:
            self.test.assertRaises(NoDeed, self.keeper.again)
        else:
            self.test.assertIsNone(self.keeper.again())
            self.done.append(self.undone.pop())
        self.test.assertEqual(self.keeper.lots(), self.done[-1])

    def any_deed(self, random):
        there = places_of(self.keeper.lots())
        away = [row for row in range(len(self.ranks.rows)) if row not in there]
        count = len(self.keeper.lots())
        kind = random.choice(("come", "come", "come", "come", "go", "more", "less", "undo", "undo", "again"))
        if kind == "come" and away:
            self.come(random.choice(away))
        elif kind == "go" and there:
            self.go(random.choice(sorted(there)))
        elif kind == "more" and count < 3:
            self.more()
        elif kind == "less" and count:
            self.less(random.randrange(count))
        elif kind == "undo":
            self.undo()
        else:
            self.again()


class KeeperTest(unittest.TestCase):

    def test_deeds_against_all_ways(self):
        for seed, (rows, field) in enumerate(small_tables(31, 84, most_rows=6, most_width=3)):
            random = Random(seed)
            watched = Watched(self, rows, field, random.randint(0, 3))
            for _ in range(30):
                watched.any_deed(random)

    def test_full_keepers_against_all_ways(self):
        for seed in range(60):
            random = Random(seed)
            rows = [[random.randint(0, 1) for _ in range(3)] for _ in range(7)]
            watched = Watched(self, rows, (0, 2)[seed % 2], 2 + seed % 2)
            for row in random.sample(range(7), 7):
                watched.come(row)
            for _ in range(12):
                there = sorted(places_of(watched.keeper.lots()))
                if there:
                    watched.go(random.choice(there))
                away = [row for row in range(7) if row not in places_of(watched.keeper.lots())]
                for row in random.sample(away, min(2, len(away))):
                    watched.come(row)
            watched.less(random.randrange(2))

    def test_way_of_three(self):
        # Row 3 can stand just where row 0 is, row 0 just where row 1 is, and row 1 just where row 2 is not needed.
        rows = [[1, 0, 0], [0, 1, 0], [0, 0, 1], [1, 0, 0], [0, 1, 0], [1, 1, 0]]
        for order in ((0, 1, 3, 4, 5), (5, 0, 1, 3, 4), (0, 4, 5, 1, 3)):
            watched = Watched(self, rows, 0, 3)
            for row in order:
                watched.come(row)

    def test_at_first(self):
        table = Rows([[1], [2]])
        for count in (0, 1, 60):
            keeper = Keeper(table, count)
            self.assertEqual(keeper.lots(), [[]] * count)
            self.assertIs(keeper.table, table)
            self.assertRaises(NoDeed, keeper.undo)
            self.assertRaises(NoDeed, keeper.again)

    def test_bad_counts(self):
        for count in [-1, 61, 10 ** 31, *NOT_INTEGERS]:
            with self.assertRaises(BadCount) as caught:
                Keeper(Rows([[1]]), count)
            self.assertIs(caught.exception.count, count)

    def test_no_rows(self):
        keeper = Keeper(Rows([[1, 0], [0, 1], [0, 0]]), 1)
        keeper.come(1)
        for row in [-1, 3, 10 ** 31, *NOT_INTEGERS]:
            for call in (keeper.come, keeper.go):
                with self.assertRaises(NoRow) as caught:
                    call(row)
                self.assertIs(caught.exception.row, row)
        for call, row in ((keeper.come, 1), (keeper.go, 0), (keeper.go, 2)):
            with self.assertRaises(NoRow) as caught:
                call(row)
            self.assertEqual(caught.exception.row, row)
        self.assertEqual(keeper.lots(), [[1]])
        with self.assertRaises(TooMany) as caught:
            keeper.come(2)
        self.assertEqual(keeper.go(1), 0)
        self.assertRaises(NoRow, keeper.go, 1)

    def test_too_many(self):
        keeper = Keeper(Rows([[1, 0], [2, 0], [3, 0], [0, 1]]), 2)
        for row in (0, 1, 3):
            keeper.come(row)
        before = keeper.lots()
        with self.assertRaises(TooMany) as caught:
            keeper.come(2)
        self.assertEqual(caught.exception.lot, [0, 1, 2])
        self.assertEqual(keeper.lots(), before)
        for place in (0, 1):
            with self.assertRaises(TooMany) as caught:
                keeper.less(place)
            self.assertEqual(caught.exception.lot, [0, 1])
            self.assertEqual(keeper.lots(), before)
        keeper.undo()
        self.assertEqual(sorted(places_of(keeper.lots())), [0, 1])

    def test_refused_is_no_deed(self):
        keeper = Keeper(Rows([[1], [2], [3]]), 1)
        keeper.come(0)
        keeper.go(0)
        keeper.come(1)
        keeper.undo()
        keeper.undo()
        self.assertEqual(keeper.lots(), [[0]])
        refused = [(NoRow, keeper.come, 0), (NoRow, keeper.come, 9), (TooMany, keeper.come, 1), (NoRow, keeper.go, 2),
                   (BadCount, keeper.less, 1), (TooMany, keeper.less, 0), (BadCount, keeper.less, True)]
        for error, call, passed in refused:
            self.assertRaises(error, call, passed)
        self.assertEqual(keeper.lots(), [[0]])
        keeper.again()
        keeper.again()
        self.assertEqual(keeper.lots(), [[1]])
        self.assertRaises(NoDeed, keeper.again)
        for lots in ([[]], [[0]], [[]]):
            keeper.undo()
            self.assertEqual(keeper.lots(), lots)
        self.assertRaises(NoDeed, keeper.undo)

    def test_same_deed_anew(self):
        keeper = Keeper(Rows([[1], [2]]), 2)
        keeper.come(0)
        keeper.come(1)
        keeper.undo()
        keeper.undo()
        keeper.come(0)
        self.assertRaises(NoDeed, keeper.again)
        keeper.undo()
        self.assertEqual(keeper.lots(), [[], []])
        self.assertRaises(NoDeed, keeper.undo)
        keeper.again()
        self.assertEqual(sorted(places_of(keeper.lots())), [0])

    def test_all_deeds_undone_and_done_again(self):
        keeper = Keeper(Rows([[1, 0], [0, 1], [1, 1], [1, 2]]), 2)
        states = [keeper.lots()]
        for call, passed in ((keeper.come, [0]), (keeper.come, [1]), (keeper.more, []), (keeper.come, [2]),
                             (keeper.go, [0]), (keeper.less, [0]), (keeper.come, [3]), (keeper.more, []),
                             (keeper.less, [2]), (keeper.go, [3])):
            call(*passed)
            states.append(keeper.lots())
        for state in states[-2::-1]:
            keeper.undo()
            self.assertEqual(keeper.lots(), state)
        self.assertRaises(NoDeed, keeper.undo)
        for state in states[1:]:
            keeper.again()
            self.assertEqual(keeper.lots(), state)
        self.assertRaises(NoDeed, keeper.again)
        keeper.undo()
        keeper.more()
        self.assertRaises(NoDeed, keeper.again)
        keeper.undo()
        self.assertEqual(keeper.lots(), states[-2])

    def test_less_returns_the_new_integers(self):
        keeper = Keeper(Rows([[1, 0, 0], [0, 1, 0], [0, 0, 1], [2, 0, 0], [3, 0, 0]]), 3)
        for row in (0, 3, 4, 1, 2):
            keeper.come(row)
        keeper.go(0)
        empty = [place for place, lot in enumerate(keeper.lots()) if 3 not in lot and 4 not in lot][0]
        rows = keeper.lots()[empty]
        before = keeper.lots()
        told = keeper.less(empty)
        self.assertEqual(sorted(told), rows)
        self.assertEqual(told, {row: places_of(keeper.lots())[row] for row in rows})
        for row in (3, 4):
            old = places_of(before)[row]
            self.assertEqual(places_of(keeper.lots())[row], old - 1 if old > empty else old)

    def test_less_of_an_empty_lot_is_a_deed(self):
        keeper = Keeper(Rows([[1]]), 2)
        self.assertEqual(keeper.less(0), {})
        self.assertEqual(keeper.lots(), [[]])
        self.assertEqual(keeper.less(0), {})
        self.assertEqual(keeper.lots(), [])
        with self.assertRaises(TooMany) as caught:
            keeper.come(0)
        self.assertEqual(caught.exception.lot, [0])
        keeper.undo()
        keeper.undo()
        self.assertEqual(keeper.lots(), [[], []])

    def test_bad_places(self):
        keeper = Keeper(Rows([[1]]), 2)
        for place in [-1, 2, -2, 60, 10 ** 31, *NOT_INTEGERS]:
            with self.assertRaises(BadCount) as caught:
                keeper.less(place)
            self.assertIs(caught.exception.count, place)
        self.assertRaises(BadCount, Keeper(Rows([]), 0).less, 0)

    def test_sixty_lots(self):
        keeper = Keeper(Rows([[1]] * 60), 58)
        self.assertEqual([keeper.more(), keeper.more()], [58, 59])
        with self.assertRaises(BadCount) as caught:
            keeper.more()
        self.assertEqual(caught.exception.count, 61)
        for row in range(60):
            self.assertEqual(list(keeper.come(row)), [row])
        self.assertEqual(sorted(places_of(keeper.lots())), list(range(60)))
        for place in (0, 59, 30):
            with self.assertRaises(TooMany) as caught:
                keeper.less(place)
            self.assertEqual(caught.exception.lot, list(range(60)))
        keeper.go(7)
        keeper.less(20)
        self.assertEqual(len(keeper.lots()), 59)
        self.assertEqual(keeper.more(), 59)

    def test_not_compared_with_other_things(self):
        keeper = Keeper(Rows([[1]]), 1)
        for other in (keeper.lots(), keeper.table, None, 1, "x"):
            self.assertFalse(keeper == other)
            self.assertTrue(keeper != other)


if __name__ == "__main__":
    unittest.main()
