"""Thickness, layers and their papers (points 14, 15 and 16)."""

import copy
import unittest
from fractions import Fraction
from math import gcd
from random import Random

from brute import Ranks, all_lots, is_lot, made_of_few, small_tables
from freelots.bases import most_apart
from freelots.errors import NoughtRow
from freelots.lots import fewest
from freelots.many import fewest_many
from freelots.rows import Rows
from freelots.thick import are_layers, layer_papers, layers, thickest, thickness

SEVEN = [[number // 4, number // 2 % 2, number % 2] for number in range(1, 8)]


def plain_tables(seed, count, **limits):
    """Return small tables that have no nought rows."""
    found = []
    for rows, field in small_tables(seed, count, **limits):
        ranks = Ranks(rows, field)
        rows = [row for at, row in enumerate(rows) if ranks.rank([at]) > 0]
        found.append((rows, field))
    return found


def thickest_over(ranks, many, ahead):
    """Return the greatest thickness over the rows ahead, and all lots of the other rows that have it."""
    best, lots = Fraction(0), [[]]
    left = [row for row in range(many) if row not in ahead]
    base = ranks.rank(ahead)
    for some in all_lots(len(left))[1:]:
        lot = [left[at] for at in some]
        thick = Fraction(len(lot), ranks.rank(ahead + lot) - base)
        if thick > best:
            best, lots = thick, []
        if thick == best:
            lots.append(lot)
    return best, lots


def layers_by_words(ranks, many):
    """Return the layers as pairs of a fraction and a lot."""
    told, ahead = [], []
    while len(ahead) < many:
        thick, lots = thickest_over(ranks, many, ahead)
        told.append((thick, max(lots, key=len)))
        ahead = sorted(ahead + told[-1][1])
    return told


def is_paper_by_words(ranks, many, ahead, lot, paper):
    base = ranks.rank(ahead)
    rank = ranks.rank(ahead + lot) - base
    if len(paper) != len(lot) or not all(is_lot(part, many) and set(part) <= set(lot) for part in paper):
        return False
    if any(len(part) != rank or ranks.rank(ahead + part) - base != rank for part in paper):
        return False
    return all(sum(row in part for part in paper) == rank for row in lot)


def are_layers_by_words(ranks, many, lots, papers):
    if lots != [lot for _, lot in layers_by_words(ranks, many)] or len(papers) != len(lots):
        return False
    ahead = []
    for lot, paper in zip(lots, papers):
        if not is_paper_by_words(ranks, many, ahead, lot, paper):
            return False
        ahead = sorted(ahead + lot)
    return True


class ThicknessTest(unittest.TestCase):

    def test_against_the_quotients_of_all_lots(self):
        for rows, field in plain_tables(141, 168):
            table, many = Rows(rows, field), len(rows)
            best, lots = thickest_over(Ranks(rows, field), many, [])
            found = thickness(table)
            self.assertIs(type(found), tuple)
            self.assertEqual(found, (best.numerator, best.denominator))
            lot = thickest(table)
            self.assertIn(lot, lots)
            self.assertTrue(all(set(other) <= set(lot) for other in lots))

    def test_lowest_terms(self):
        two = [[1, 0], [0, 1], [1, 1], [1, 2]]
        self.assertEqual(thickness(Rows(two)), (2, 1))
        self.assertEqual(thickness(Rows(two[:3])), (3, 2))
        self.assertEqual(thickness(Rows(two[:2])), (1, 1))
        self.assertEqual(thickness(Rows(SEVEN, 2)), (7, 3))
        self.assertEqual(thickness(Rows([[1]] * 12)), (12, 1))
        self.assertEqual(thickness(Rows(made_of_few(Random(1), 10, 4, 4, 99))), (5, 2))
        self.assertEqual(thickness(Rows(made_of_few(Random(2), 11, 4, 4, 99))), (11, 4))
        self.assertEqual(thickness(Rows([[1, 0], [3, 0], [0, 1]], 2)), (2, 1))
        self.assertEqual(thickness(Rows([[1, 0], [1, 3], [0, 1]])), (3, 2))
        self.assertEqual(thickness(Rows([[1, 0], [1, 3], [0, 1]], 3)), (2, 1))

    def test_no_rows(self):
        for field in (0, 2, 13):
            table = Rows([], field)
            self.assertEqual(thickness(table), (0, 1))
            self.assertEqual([thickest(table), layers(table), layer_papers(table)], [[], [], []])
            self.assertIs(are_layers(table, [], []), True)
            self.assertIs(are_layers(table, [[]], [[]]), False)
            self.assertIs(are_layers(table, [], [[]]), False)
            self.assertIs(are_layers(table, [[0]], [[[0]]]), False)

    def test_all_lots_of_the_greatest_thickness_are_in_one(self):
        self.assertEqual(thickest(Rows([[1, 0], [0, 1], [2, 0], [0, 2], [0, 1]])), [1, 3, 4])
        self.assertEqual(thickest(Rows([[1, 0], [0, 1], [2, 0], [0, 2]])), [0, 1, 2, 3])
        self.assertEqual(thickest(Rows([[1, 0, 0], [0, 1, 0], [2, 0, 0], [0, 0, 1], [0, 2, 0]])), [0, 1, 2, 4])
        self.assertEqual(thickest(Rows([[1, 0, 0], [0, 1, 0], [0, 0, 1]])), [0, 1, 2])

    def test_nought_rows(self):
        tables = [(0, [[0, 0], [1, 0]], 0), (1, [[1, 0], [0, 0], [0, 0]], 0), (0, [[]], 0), (0, [[]] * 3, 5),
                  (2, [[1], [3], [2]], 2), (1, [[1, 1], [13, -26]], 13), (1, [[3], [5], [0]], 5),
                  (11, [[1]] * 11 + [[0]], 0), (0, [[10 ** 29] * 4], 2)]
        for index, rows, field in tables:
            table = Rows(rows, field)
            for call in (thickness, thickest, layers, layer_papers):
                self.refused(index, call, table)
            for lots in ([], [[0]], [[9, 9]], None, 7, [None], [[0.5]], [list(range(len(rows)))]):
                for papers in ([], [[[0]]], None, 7, [None], [[None]]):
                    self.refused(index, are_layers, table, lots, papers)

    def refused(self, index, call, *passed):
        with self.assertRaises(NoughtRow) as caught:
            call(*passed)
        self.assertEqual(caught.exception.index, index)


class LayersTest(unittest.TestCase):

    def test_against_all_lots(self):
        for rows, field in plain_tables(151, 168):
            table, many, ranks = Rows(rows, field), len(rows), Ranks(rows, field)
            told = layers_by_words(ranks, many)
            found = layers(table)
            self.assertIs(type(found), list)
            self.assertEqual(found, [(thick.numerator, thick.denominator, lot) for thick, lot in told])
            self.assertTrue(all(type(layer) is tuple and type(layer[2]) is list for layer in found))
            self.assertEqual(sorted(row for _, _, lot in found for row in lot), list(range(many)))
            for (top, bottom, _), (less, more, _) in zip(found, found[1:]):
                self.assertGreater(top * more, less * bottom)
            self.assertTrue(all(gcd(top, bottom) == 1 and bottom > 0 for top, bottom, _ in found))

    def test_papers(self):
        for rows, field in plain_tables(152, 168):
            table, many, ranks = Rows(rows, field), len(rows), Ranks(rows, field)
            lots = [lot for _, _, lot in layers(table)]
            papers = layer_papers(table)
            self.assertIs(type(papers), list)
            self.assertEqual(len(papers), len(lots))
            ahead = []
            for lot, paper in zip(lots, papers):
                self.assertTrue(type(paper) is list and all(type(part) is list for part in paper))
                self.assertTrue(is_paper_by_words(ranks, many, ahead, lot, paper), (rows, field, ahead, lot, paper))
                ahead = sorted(ahead + lot)
            self.assertIs(are_layers(table, lots, papers), True)
            tuples = [tuple(map(tuple, paper)) for paper in papers]
            self.assertIs(are_layers(table, tuple(map(tuple, lots)), tuple(tuples)), True)

    def test_many_layers(self):
        rows = [[1, 0, 0]] * 4 + [[0, 1, 0]] * 2 + [[5, 7, 0]] + [[0, 0, 1]] * 2
        self.assertEqual(layers(Rows(rows)), [(4, 1, [0, 1, 2, 3]), (3, 1, [4, 5, 6]), (2, 1, [7, 8])])
        self.assertEqual(layers(Rows([[1, 0], [2, 0], [0, 1]])), [(2, 1, [0, 1]), (1, 1, [2])])
        self.assertEqual(layers(Rows(SEVEN, 2)), [(7, 3, list(range(7)))])
        self.assertEqual(layers(Rows([[1, 0]] * 2 + [[0, 1]] * 2)), [(2, 1, [0, 1, 2, 3])])
        self.assertEqual(layers(Rows([[0, 1], [0, 1], [1, 1], [1, 2], [1, 3]])), [(5, 2, [0, 1, 2, 3, 4])])
        self.assertEqual(layers(Rows([[0, 1]] * 3 + [[1, 1], [1, 2]])), [(3, 1, [0, 1, 2]), (2, 1, [3, 4])])

    def test_fewest_lots_and_most_bases_apart(self):
        for rows, field in plain_tables(153, 168):
            if not rows:
                continue
            table = Rows(rows, field)
            found = layers(table)
            top, bottom, lot = found[0]
            self.assertEqual((top, bottom, lot), (*thickness(table), thickest(table)))
            self.assertEqual(len(fewest(table)[1]), -(-top // bottom))
            for times in (1, 3, 10 ** 20):
                self.assertEqual(fewest_many(table, [times] * len(rows)), -(-times * top // bottom))
            top, bottom, _ = found[-1]
            self.assertEqual(most_apart(table), top // bottom)


class AreLayersTest(unittest.TestCase):

    def check(self, ranks, lots, papers):
        """Check what is told against the definition; return it."""
        many = len(ranks.rows)
        told = are_layers(Rows(ranks.rows, ranks.field), lots, papers)
        self.assertIs(told, are_layers_by_words(ranks, many, lots, papers), (ranks.rows, ranks.field, lots, papers))
        return told

    def right(self, ranks):
        """Return the lots of the layers, and papers of them."""
        table = Rows(ranks.rows, ranks.field)
        return [lot for _, _, lot in layers(table)], layer_papers(table)

    def tables(self, seed, count):
        return [Ranks(rows, field) for rows, field in plain_tables(seed, count, most_rows=6) if rows]

    def test_bent_lots(self):
        random = Random(161)
        for ranks in self.tables(161, 84):
            many = len(ranks.rows)
            lots, papers = self.right(ranks)
            for at, lot in enumerate(lots):
                ahead, behind, paper = lots[:at], lots[at + 1:], papers[at]
                for row in range(-1, many + 1):
                    bent = [other for other in lot if other != row] if row in lot else sorted(lot + [row])
                    self.assertFalse(self.check(ranks, ahead + [bent] + behind, papers))
                for bent in (lot[::-1] + lot[:1], lot + lot[-1:], []):
                    self.assertFalse(self.check(ranks, ahead + [bent] + behind, papers))
                cut = random.randrange(len(lot))
                # A layer fewer, one that comes twice, one without rows, and one in two parts.
                fewer, twice = papers[:at] + papers[at + 1:], papers[:at] + [paper] + papers[at:]
                self.assertFalse(self.check(ranks, ahead + behind, fewer))
                self.assertFalse(self.check(ranks, ahead + [lot, lot] + behind, twice))
                self.assertFalse(self.check(ranks, ahead + [[], lot] + behind, papers[:at] + [[]] + papers[at:]))
                self.assertFalse(self.check(ranks, ahead + [lot[:cut], lot[cut:]] + behind, twice))

    def test_rows_that_change_their_layer(self):
        for ranks in self.tables(162, 84):
            lots, papers = self.right(ranks)
            for one in range(len(lots)):
                for other in range(len(lots)):
                    for row in lots[one]:
                        if one != other:
                            bent = copy.deepcopy(lots)
                            bent[one].remove(row)
                            bent[other] = sorted(bent[other] + [row])
                            self.assertFalse(self.check(ranks, bent, papers))

    def test_other_orders(self):
        ranks = Ranks([[1, 0, 0]] * 3 + [[0, 1, 0]] * 2 + [[0, 0, 1]])
        lots, papers = self.right(ranks)
        self.assertEqual(lots, [[0, 1, 2], [3, 4], [5]])
        for order in ((0, 2, 1), (1, 0, 2), (2, 1, 0), (1, 2, 0)):
            turned = [lots[at] for at in order]
            self.assertFalse(self.check(ranks, turned, papers))
            self.assertFalse(self.check(ranks, turned, [papers[at] for at in order]))
            self.assertFalse(self.check(ranks, lots, [papers[at] for at in order]))
        self.assertTrue(self.check(ranks, lots, papers))

    def test_two_layers_made_one(self):
        ranks = Ranks([[1, 0]] * 3 + [[0, 1]])
        self.assertTrue(self.check(ranks, [[0, 1, 2], [3]], [[[0], [1], [2]], [[3]]]))
        for paper in ([[0, 3], [1, 3], [2, 3], [0, 3]], [[0, 3], [1, 3], [2, 3], [1, 3]], [[0, 1], [2, 3]] * 2, []):
            self.assertFalse(self.check(ranks, [[0, 1, 2, 3]], [paper]))

    def test_one_layer_parted(self):
        ranks = Ranks([[1, 0], [2, 0], [0, 1], [0, 2]])
        paper = [[0, 2], [1, 3], [0, 3], [1, 2]]
        self.assertTrue(self.check(ranks, [[0, 1, 2, 3]], [paper]))
        self.assertFalse(self.check(ranks, [[0, 1], [2, 3]], [[[0], [1]], [[2], [3]]]))
        self.assertFalse(self.check(ranks, [[2, 3], [0, 1]], [[[2], [3]], [[0], [1]]]))
        ranks = Ranks([[1, 0], [0, 1]])
        self.assertTrue(self.check(ranks, [[0, 1]], [[[0, 1], [0, 1]]]))
        self.assertFalse(self.check(ranks, [[0], [1]], [[[0]], [[1]]]))

    def test_a_lot_whose_rows_lie_over_one_another(self):
        # The second lot has the rank 0 over the first one.
        ranks = Ranks([[1], [2], [3]])
        self.assertTrue(self.check(ranks, [[0, 1, 2]], [[[2], [1], [0]]]))
        for papers in ([[[0], [1]], [[]]], [[[0], [1]], []], [[[0], [1]], [[2]]]):
            self.assertFalse(self.check(ranks, [[0, 1], [2]], papers))

    def test_bent_papers(self):
        for ranks in self.tables(163, 56):
            many = len(ranks.rows)
            lots, papers = self.right(ranks)
            for at, paper in enumerate(papers):
                bents = [paper[:-1], paper + paper[-1:], paper + [[]], [], paper[1:] + [[]], paper * 2]
                for place, part in enumerate(paper):
                    for row in range(many + 1):
                        bent = [other for other in part if other != row] if row in part else sorted(part + [row])
                        bents.append(paper[:place] + [bent] + paper[place + 1:])
                        for left in part:
                            if row not in part:
                                bent = sorted([other for other in part if other != left] + [row])
                                bents.append(paper[:place] + [bent] + paper[place + 1:])
                    bents.append(paper[:place] + [part[:1] + part] + paper[place + 1:])
                    if len(part) > 1:
                        bents.append(paper[:place] + [part[::-1]] + paper[place + 1:])
                for bent in bents:
                    self.assertFalse(self.check(ranks, lots, papers[:at] + [bent] + papers[at + 1:]))
                self.assertTrue(self.check(ranks, lots, papers[:at] + [paper[::-1]] + papers[at + 1:]))

    def test_papers_bent_at_random(self):
        random = Random(164)
        told = 0
        for ranks in self.tables(164, 112):
            lots, papers = self.right(ranks)
            for _ in range(20):
                bent = copy.deepcopy(papers)
                for _ in range(2):
                    paper = random.choice(bent)
                    one, other = random.choice(paper), random.choice(paper)
                    if one and other:
                        left, came = random.choice(one), random.choice(other)
                        if left not in other and came not in one:
                            one.remove(left)
                            other.remove(came)
                            one.append(came)
                            other.append(left)
                            one.sort()
                            other.sort()
                told += self.check(ranks, lots, bent)
        self.assertGreater(told, 500)

    def test_as_many_papers_as_lots(self):
        for ranks in self.tables(165, 56):
            lots, papers = self.right(ranks)
            self.assertFalse(self.check(ranks, lots, papers[:-1]))
            self.assertFalse(self.check(ranks, lots, papers + [[]]))
            self.assertFalse(self.check(ranks, lots, papers + papers[-1:]))
            self.assertFalse(self.check(ranks, lots[:-1], papers[:-1]))
            self.assertFalse(self.check(ranks, [], []))

    def test_a_paper_has_as_many_lots_as_its_layer_has_rows(self):
        # Four rows of the rank 2 are as thick as two of the rank 1, but two lots are no paper of them.
        ranks = Ranks([[1, 0], [0, 1], [1, 1], [1, 2]])
        lots = [[0, 1, 2, 3]]
        for paper in ([[0, 1], [2, 3], [0, 1], [2, 3]], [[0, 1], [0, 2], [1, 3], [2, 3]], [[2, 3]] * 2 + [[0, 1]] * 2):
            self.assertTrue(self.check(ranks, lots, [paper]))
        for paper in ([[0, 1], [2, 3]], [[0, 1], [2, 3]] * 4, [[0, 1], [2, 3], [0, 2]], [[0], [1], [2], [3]]):
            self.assertFalse(self.check(ranks, lots, [paper]))


if __name__ == "__main__":
    unittest.main()
