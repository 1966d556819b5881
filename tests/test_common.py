"""Rows that are free by two tables, and one row of each class (points 18 and 19)."""

import unittest
from itertools import combinations, product
from random import Random

from brute import FIELDS, NOT_INTEGERS, NOT_LISTS, Ranks, all_lots, is_lot, one_kind, small_tables
from freelots.common import chosen, common
from freelots.errors import BadClass, UnlikeRows
from freelots.rows import Rows


def pairs_of_tables(seed, count, most_rows=7):
    """Return pairs of the ranks of two random tables with as many rows, of unlike fields and widths."""
    random = Random(seed)
    found = []
    for _ in range(count):
        many = random.randint(0, most_rows)
        found.append([Ranks(one_kind(random, random.randrange(4), many, random.randint(1, 5)), random.choice(FIELDS))
                      for _ in range(2)])
    return found


class CommonTest(unittest.TestCase):

    def check(self, one, other):
        many = len(one.rows)
        found = common(Rows(one.rows, one.field), Rows(other.rows, other.field))
        self.assertIs(type(found), tuple)
        lot, shown = found
        for told in found:
            self.assertIs(type(told), list)
            self.assertTrue(is_lot(told, many))
        self.assertTrue(one.is_free(lot) and other.is_free(lot))
        left = [row for row in range(many) if row not in shown]
        self.assertEqual(one.rank(shown) + other.rank(left), len(lot))
        return len(lot)

    def test_against_all_lots(self):
        for one, other in pairs_of_tables(181, 400):
            lots = [lot for lot in all_lots(len(one.rows)) if one.is_free(lot) and other.is_free(lot)]
            self.assertEqual(self.check(one, other), max(map(len, lots)))

    def test_rows_that_come_only_by_exchanges(self):
        # Pairs of two colours each: one row of each colour on either side, in a long row of choices.
        for many in range(1, 6):
            ends = [(at // 2, (at + 1) // 2) for at in range(2 * many)]
            for order in (ends, ends[::-1], ends[::2] + ends[1::2], ends[1::2] + ends[::2]):
                one = Ranks([[int(at == left) for at in range(many)] for left, _ in order])
                other = Ranks([[int(at == right) for at in range(many + 1)] for _, right in order], 2)
                self.assertEqual(self.check(one, other), many)

    def test_a_table_with_itself(self):
        for rows, field in small_tables(182, 56):
            ranks = Ranks(rows, field)
            self.assertEqual(self.check(ranks, ranks), ranks.rank(range(len(rows))))

    def test_webs_and_colours(self):
        random = Random(183)
        for _ in range(60):
            ties = [random.sample(range(4), 2) for _ in range(7)]
            colours = [random.randrange(4) for _ in ties]
            web = Ranks([[int(at == one) - int(at == two) for at in range(4)] for one, two in ties])
            unlike = Ranks([[int(at == colour) for at in range(4)] for colour in colours], 5)
            most = max(len(lot) for lot in all_lots(7) if web.is_free(lot)
                       and len({colours[tie] for tie in lot}) == len(lot))
            self.assertEqual(self.check(web, unlike), most)
            self.assertEqual(self.check(unlike, web), most)

    def test_ends(self):
        self.assertEqual(common(Rows([]), Rows([], 7)), ([], []))
        self.assertEqual(common(Rows([[]] * 3), Rows([[1, 2]] * 3))[0], [])
        self.assertEqual(self.check(Ranks([[1], [0]]), Ranks([[0], [1]])), 0)
        self.assertEqual(self.check(Ranks([[]] * 4), Ranks([[]] * 4, 2)), 0)
        self.assertEqual(self.check(Ranks([[1, 0], [0, 1]]), Ranks([[1, 0, 0], [0, 0, 1]], 13)), 2)
        self.assertEqual(self.check(Ranks([[2], [1]]), Ranks([[2], [1]], 2)), 1)

    def test_unlike_rows(self):
        for one, other in (([], [[1]]), ([[1]], []), ([[1]] * 3, [[1]] * 4), ([[]] * 60, [[]] * 59)):
            for field in (0, 3):
                with self.assertRaises(UnlikeRows):
                    common(Rows(one, field), Rows(other))


class ChosenTest(unittest.TestCase):

    def check(self, ranks, classes):
        found = chosen(Rows(ranks.rows, ranks.field), classes)
        self.assertIs(type(found), tuple)
        word, told = found
        self.assertIs(type(told), list)
        if word == "rows":
            self.assertEqual(len(told), len(classes))
            self.assertTrue(all(row in lot for row, lot in zip(told, classes)))
            self.assertEqual(len(set(told)), len(told))
            self.assertTrue(ranks.is_free(told))
        else:
            self.assertEqual(word, "classes")
            self.assertTrue(is_lot(told, len(classes)))
            self.assertLess(ranks.rank({row for number in told for row in classes[number]}), len(told))
        return word

    def some_classes(self, random, many, count):
        share = random.choice((0.2, 0.4, 0.7))
        classes = [[row for row in range(many) if random.random() < share] for _ in range(count)]
        return [random.choice(classes) if random.random() < 0.2 else lot for lot in classes]

    def test_against_all_choices(self):
        random = Random(191)
        told = []
        for rows, field in small_tables(191, 280, most_rows=6):
            ranks = Ranks(rows, field)
            classes = self.some_classes(random, len(rows), random.randint(0, 4))
            can = any(len(set(rows)) == len(rows) and ranks.is_free(rows) for rows in product(*classes))
            told.append(self.check(ranks, classes))
            self.assertEqual(told[-1], "rows" if can else "classes")
        self.assertGreater(min(told.count("rows"), told.count("classes")), 60)

    def test_against_all_sets_of_classes(self):
        random = Random(192)
        for rows, field in small_tables(192, 140):
            ranks = Ranks(rows, field)
            classes = self.some_classes(random, len(rows), random.randint(0, 6))
            low = any(ranks.rank({row for lot in some for row in lot}) < size for size in range(len(classes) + 1)
                      for some in combinations(classes, size))
            self.assertEqual(self.check(ranks, classes), "classes" if low else "rows")

    def test_rows_that_are_given_on(self):
        # The last class can only have the row that each other class would like best.
        for many in range(1, 13):
            units = Ranks([[int(at == place) for at in range(many)] for place in range(many)], 3)
            classes = [[at, at + 1] for at in range(many - 1)] + [[0]]
            self.assertEqual(chosen(Rows(units.rows), classes), ("rows", [*range(1, many), 0]))
            self.assertEqual(self.check(units, classes), "rows")
            self.assertEqual(self.check(units, classes + [[0, many - 1] if many > 1 else [0]]), "classes")

    def test_rows_that_are_given_on_since_others_make_them(self):
        ranks = Ranks([[1, 0, 0], [0, 1, 0], [1, 1, 0], [0, 0, 1], [1, 1, 1]])
        self.assertEqual(self.check(ranks, [[0, 3], [1, 4], [2]]), "rows")
        self.assertEqual(self.check(ranks, [[0, 3], [1], [2]]), "rows")
        self.assertEqual(chosen(Rows(ranks.rows), [[0, 3], [1], [2]]), ("rows", [3, 1, 2]))
        self.assertEqual(chosen(Rows(ranks.rows), [[3, 4], [0], [1], [2]]), ("classes", [1, 2, 3]))

    def test_order_of_the_classes(self):
        table = Rows([[1, 0], [0, 1], [1, 1], [2, 2]])
        self.assertEqual(chosen(table, [[0], [1]]), ("rows", [0, 1]))
        self.assertEqual(chosen(table, [[1], [0]]), ("rows", [1, 0]))
        self.assertEqual(chosen(table, ((3,), (1,))), ("rows", [3, 1]))

    def test_empty_classes(self):
        self.assertEqual(chosen(Rows([[1]]), [[]]), ("classes", [0]))
        self.assertEqual(chosen(Rows([[1]]), [[0], []]), ("classes", [1]))
        self.assertEqual(self.check(Ranks([[1, 0], [0, 1]]), [[0], [1], [], [0]]), "classes")
        self.assertEqual(chosen(Rows([]), [[]]), ("classes", [0]))
        self.assertEqual(chosen(Rows([]), ((), [])), ("classes", [0]))

    def test_no_classes(self):
        for table in (Rows([]), Rows([[1]]), Rows([[]] * 60, 2)):
            self.assertEqual(chosen(table, []), ("rows", []))
            self.assertEqual(chosen(table, ()), ("rows", []))

    def test_classes_that_come_twice(self):
        ranks = Ranks([[1, 0], [0, 1], [1, 1], [2, 2]])
        self.assertEqual(self.check(ranks, [[0, 1], [0, 1]]), "rows")
        self.assertEqual(self.check(ranks, [[0], [0]]), "classes")
        self.assertEqual(self.check(ranks, [[2, 3], [2, 3]]), "classes")
        self.assertEqual(self.check(ranks, [[2, 3], [2]]), "classes")
        self.assertEqual(self.check(ranks, [[0, 1, 2, 3]] * 3), "classes")
        shared = [0, 1]
        self.assertEqual(sorted(chosen(Rows(ranks.rows), [shared, shared])[1]), [0, 1])

    def test_nought_rows(self):
        self.assertEqual(chosen(Rows([[0], [1]]), [[0]]), ("classes", [0]))
        self.assertEqual(chosen(Rows([[0], [1]]), [[0, 1]]), ("rows", [1]))
        self.assertEqual(chosen(Rows([[3], [1]], 3), [[0, 1]]), ("rows", [1]))

    def test_sixty_classes(self):
        random = Random(193)
        for field in (0, 13):
            rows = one_kind(random, 0, 60, 12)
            ranks = Ranks(rows, field)
            most = ranks.rank(range(60))
            for count in (most, 60):
                classes = [sorted(random.sample(range(60), random.randint(1, 30))) for _ in range(count)]
                word = self.check(ranks, classes)
                self.assertTrue(word == "classes" or count <= most)
            self.assertEqual(self.check(ranks, [list(range(60))] * most), "rows")
            self.assertEqual(self.check(ranks, [list(range(60))] * 60), "classes")
        self.assertEqual(chosen(Rows([[1]]), [[0]] + [[]] * 59)[0], "classes")

    def test_bad_classes(self):
        table = Rows([[1], [2], [3]])
        for classes in [*NOT_LISTS, 0.5, object()]:
            self.refused(0, table, classes)
        bad = [[1, 0], [0, 0], [-1], [3], [0, 3], [2, 1], [0, 1, 1], [10 ** 31], (1, 0), [[0]], [None], *NOT_LISTS]
        bad += [thing for number in NOT_INTEGERS for thing in ([number], [0, number], (number,))]
        for lot in bad:
            self.refused(0, table, [lot])
            self.refused(0, table, [lot, lot])
            self.refused(1, table, [[0], lot])
            self.refused(2, table, ([], [0, 1, 2], lot, [0], lot))
            self.refused(59, table, [[0]] * 59 + [lot])
        self.refused(1, Rows([]), [[], [0]])
        self.refused(2, table, [[0], [0], True])

    def refused(self, number, table, classes):
        with self.assertRaises(BadClass) as caught:
            chosen(table, classes)
        self.assertEqual(caught.exception.number, number)


if __name__ == "__main__":
    unittest.main()
