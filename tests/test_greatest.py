"""The greatest inputs for layers, common lots, classes, fields and games."""

import unittest
from random import Random

from brute import FIELDS, Ranks, big_row, is_lot, made_of_few, rank
from freelots.common import chosen, common
from freelots.fields import spoilt
from freelots.games import Game, is_hold
from freelots.rows import Rows
from freelots.thick import are_layers, layer_papers, layers, thickest, thickness
from test_limits import HALF, KINDS
from test_thick import is_paper_by_words


def stepped(seed):
    """Return twelve rows of 30 figures in four layers."""
    random = Random(seed)
    rows = [[random.randrange(10 ** 29, 10 ** 30) * (at <= step) for at in range(4)]
            for step, many in enumerate((5, 4, 2, 1)) for _ in range(many)]
    random.shuffle(rows)
    return rows


class GreatestTest(unittest.TestCase):

    def test_layers(self):
        tables = [(stepped(seed), 0) for seed in range(4)]
        for field in FIELDS:
            for base in (1, 2, 3, 4):
                rows = made_of_few(Random(base), 40, 4, base, HALF)
                tables.append(([row for row in rows if rank([row], field) > 0][:12], field))
        for rows, field in tables:
            self.assertEqual(len(rows), 12)
            table, ranks = Rows(rows, field), Ranks(rows, field)
            found, papers = layers(table), layer_papers(table)
            ahead = []
            for (top, bottom, lot), paper in zip(found, papers):
                self.assertEqual(top * (ranks.rank(ahead + lot) - ranks.rank(ahead)), bottom * len(lot))
                self.assertTrue(is_paper_by_words(ranks, 12, ahead, lot, paper))
                ahead = sorted(ahead + lot)
            self.assertEqual(ahead, list(range(12)))
            self.assertEqual([thickness(table), thickest(table)], [found[0][:2], found[0][2]])
            self.assertIs(are_layers(table, [lot for _, _, lot in found], papers), True)
            self.assertIs(are_layers(table, [lot for _, _, lot in found], papers[:-1] + [papers[-1][:-1]]), False)

    def test_layers_of_steps(self):
        for seed in range(4):
            self.assertEqual([layer[:2] for layer in layers(Rows(stepped(seed)))], [(5, 1), (4, 1), (2, 1), (1, 1)])

    def test_common(self):
        for kind in KINDS:
            for other_kind in KINDS:
                for field in (0, 2, 13):
                    one, other = kind(21), other_kind(22)
                    lot, shown = common(Rows(one), Rows(other, field))
                    self.assertTrue(is_lot(lot, 60) and is_lot(shown, 60))
                    self.assertEqual(rank([one[row] for row in lot]), len(lot))
                    self.assertEqual(rank([other[row] for row in lot], field), len(lot))
                    left = [row for row in range(60) if row not in shown]
                    most = rank([one[row] for row in shown]) + rank([other[row] for row in left], field)
                    self.assertEqual(len(lot), most)

    def test_common_lots_along_a_path(self):
        # Each row but the last can only be exchanged for the next one, so that all ways are as long as can be.
        ends = [(at // 2, (at + 1) // 2) for at in range(24)]
        one = Rows([[int(at == left) * 10 ** 29 for at in range(12)] for left, _ in ends])
        other = Rows([[int(at == right) * 10 ** 29 for at in range(12)] for _, right in ends])
        self.assertEqual(len(common(one, other)[0]), 12)
        self.assertEqual(len(common(other, one)[0]), 12)

    def test_sixty_classes(self):
        random = Random(23)
        for kind in KINDS:
            for field in (0, 7):
                rows = kind(24)
                table = Rows(rows, field)
                for count, share in ((5, 60), (12, 30), (60, 60), (60, 40), (60, 2), (60, 1)):
                    classes = [sorted(random.sample(range(60), share)) for _ in range(count)]
                    word, told = chosen(table, classes)
                    if word == "rows":
                        self.assertTrue(all(row in lot for row, lot in zip(told, classes)))
                        self.assertEqual(rank([rows[row] for row in told], field), count)
                        self.assertEqual(len(told), count)
                    else:
                        self.assertTrue(is_lot(told, count))
                        together = sorted({row for number in told for row in classes[number]})
                        self.assertLess(rank([rows[row] for row in together], field), len(told))

    def test_spoilt(self):
        for base in (4, 10, 12):
            rows = made_of_few(Random(base), 12, 12, base, HALF)
            if base == 12:
                rows = [big_row(Random(25 + at), 12) for at in range(12)]
            for prime in (2, 13, 997):
                lot = spoilt(Rows(rows), prime)
                if lot is not None:
                    self.assertEqual(rank([rows[row] for row in lot]), len(lot))
                    self.assertLess(rank([rows[row] for row in lot], prime), len(lot))
        units = [[int(at == row) for at in range(12)] for row in range(12)]
        for prime in (2, 997):
            self.assertIsNone(spoilt(Rows(units), prime))
            great = 10 ** 29 - 10 ** 29 % prime
            self.assertEqual(spoilt(Rows(units[:11] + [[great] * 12]), prime), [11])
            self.assertEqual(spoilt(Rows(units[:11] + [[great + 1] * 11 + [great]]), prime), list(range(12)))

    def test_games(self):
        random = Random(26)
        for base in (2, 3, 4, 5, 9):
            for field in (0, 3, 13):
                rows = made_of_few(random, 10, 12, base, HALF)
                for first in ("keep", "cut"):
                    game = Game(Rows(rows, field), 3, first)
                    while game.turn() is not None:
                        self.check(game, rows, field)
                        winner = game.winner()
                        game.take(random.choice(game.winning() or game.free_rows()))
                        # A hand that takes winning rows alone stays the winner, whatever the other one takes.
                        self.assertEqual(game.winner(), winner)
                    won = "keep" if 3 in Rows(rows, field).hull(game.kept_rows()) else "cut"
                    self.assertEqual(game.winner(), won)

    def check(self, game, rows, field):
        hold = game.hold()
        self.assertEqual(hold is not None, game.turn() == "cut" and game.winner() == "keep")
        self.assertEqual(len(game.winning()) > 0, game.turn() == game.winner())
        if hold is not None:
            self.assertIs(is_hold(Rows(rows, field), 3, game.kept_rows(), game.free_rows(), *hold), True)


if __name__ == "__main__":
    unittest.main()
