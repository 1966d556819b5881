"""The greatest inputs for layers, common lots, classes, fields, games, frames, rooted woods and dear lots."""

import unittest
from random import Random

from brute import FIELDS, Ranks, big_row, is_lot, made_of_few, rank
from freelots.common import chosen, common
from freelots.dear import dear_common, is_split
from freelots.fields import spoilt
from freelots.frames import is_stiff, more_bars, overfull, sound_bars, spare_bars, stiff_parts, strength
from freelots.games import Game, is_hold
from freelots.rooted import cheapest_rooted, is_rooted, most_rooted, rooted, rooted_paper
from freelots.rows import Rows
from freelots.thick import are_layers, layer_papers, layers, thickest, thickness
from test_frames import between, some_bars
from test_limits import HALF, KINDS
from test_rooted import enters, some_ways
from test_thick import is_paper_by_words


def stepped(seed):
    """Return twelve rows of 30 figures in four layers."""
    random = Random(seed)
    rows = [[random.randrange(10 ** 29, 10 ** 30) * (at <= step) for at in range(4)]
            for step, many in enumerate((5, 4, 2, 1)) for _ in range(many)]
    random.shuffle(rows)
    return rows


class GreatestTest(unittest.TestCase):

    def test_layers(self):
        tables = [(stepped(seed), 0) for seed in range(4)]
        for field in FIELDS:
            for base in (1, 2, 3, 4):
                rows = made_of_few(Random(base), 40, 4, base, HALF)
                tables.append(([row for row in rows if rank([row], field) > 0][:12], field))
        for rows, field in tables:
            self.assertEqual(len(rows), 12)
            table, ranks = Rows(rows, field), Ranks(rows, field)
            found, papers = layers(table), layer_papers(table)
            ahead = []
            for (top, bottom, lot), paper in zip(found, papers):
                self.assertEqual(top * (ranks.rank(ahead + lot) - ranks.rank(ahead)), bottom * len(lot))
                self.assertTrue(is_paper_by_words(ranks, 12, ahead, lot, paper))
                ahead = sorted(ahead + lot)
            self.assertEqual(ahead, list(range(12)))
            self.assertEqual([thickness(table), thickest(table)], [found[0][:2], found[0][2]])
            self.assertIs(are_layers(table, [lot for _, _, lot in found], papers), True)
            self.assertIs(are_layers(table, [lot for _, _, lot in found], papers[:-1] + [papers[-1][:-1]]), False)

    def test_layers_of_steps(self):
        for seed in range(4):
            self.assertEqual([layer[:2] for layer in layers(Rows(stepped(seed)))], [(5, 1), (4, 1), (2, 1), (1, 1)])

    def test_common(self):
        for kind in KINDS:
            for other_kind in KINDS:
                for field in (0, 2, 13):
                    one, other = kind(21), other_kind(22)
                    lot, shown = common(Rows(one), Rows(other, field))
                    self.assertTrue(is_lot(lot, 60) and is_lot(shown, 60))
                    self.assertEqual(rank([one[row] for row in lot]), len(lot))
                    self.assertEqual(rank([other[row] for row in lot], field), len(lot))
                    left = [row for row in range(60) if row not in shown]
                    most = rank([one[row] for row in shown]) + rank([other[row] for row in left], field)
                    self.assertEqual(len(lot), most)

    def test_common_lots_along_a_path(self):
        # Each row but the last can only be exchanged for the next one, so that all ways are as long as can be.
        ends = [(at // 2, (at + 1) // 2) for at in range(24)]
        one = Rows([[int(at == left) * 10 ** 29 for at in range(12)] for left, _ in ends])
        other = Rows([[int(at == right) * 10 ** 29 for at in range(12)] for _, right in ends])
        self.assertEqual(len(common(one, other)[0]), 12)
        self.assertEqual(len(common(other, one)[0]), 12)

    def test_sixty_classes(self):
        random = Random(23)
        for kind in KINDS:
            for field in (0, 7):
                rows = kind(24)
                table = Rows(rows, field)
                for count, share in ((5, 60), (12, 30), (60, 60), (60, 40), (60, 2), (60, 1)):
                    classes = [sorted(random.sample(range(60), share)) for _ in range(count)]
                    word, told = chosen(table, classes)
                    if word == "rows":
                        self.assertTrue(all(row in lot for row, lot in zip(told, classes)))
                        self.assertEqual(rank([rows[row] for row in told], field), count)
                        self.assertEqual(len(told), count)
                    else:
                        self.assertTrue(is_lot(told, count))
                        together = sorted({row for number in told for row in classes[number]})
                        self.assertLess(rank([rows[row] for row in together], field), len(told))

    def test_spoilt(self):
        for base in (4, 10, 12):
            rows = made_of_few(Random(base), 12, 12, base, HALF)
            if base == 12:
                rows = [big_row(Random(25 + at), 12) for at in range(12)]
            for prime in (2, 13, 997):
                lot = spoilt(Rows(rows), prime)
                if lot is not None:
                    self.assertEqual(rank([rows[row] for row in lot]), len(lot))
                    self.assertLess(rank([rows[row] for row in lot], prime), len(lot))
        units = [[int(at == row) for at in range(12)] for row in range(12)]
        for prime in (2, 997):
            self.assertIsNone(spoilt(Rows(units), prime))
            great = 10 ** 29 - 10 ** 29 % prime
            self.assertEqual(spoilt(Rows(units[:11] + [[great] * 12]), prime), [11])
            self.assertEqual(spoilt(Rows(units[:11] + [[great + 1] * 11 + [great]]), prime), list(range(12)))

    def test_games(self):
        random = Random(26)
        for base in (2, 3, 4, 5, 9):
            for field in (0, 3, 13):
                rows = made_of_few(random, 10, 12, base, HALF)
                for first in ("keep", "cut"):
                    game = Game(Rows(rows, field), 3, first)
                    while game.turn() is not None:
                        self.check(game, rows, field)
                        winner = game.winner()
                        game.take(random.choice(game.winning() or game.free_rows()))
                        # A hand that takes winning rows alone stays the winner, whatever the other one takes.
                        self.assertEqual(game.winner(), winner)
                    won = "keep" if 3 in Rows(rows, field).hull(game.kept_rows()) else "cut"
                    self.assertEqual(game.winner(), won)

    def check(self, game, rows, field):
        hold = game.hold()
        self.assertEqual(hold is not None, game.turn() == "cut" and game.winner() == "keep")
        self.assertEqual(len(game.winning()) > 0, game.turn() == game.winner())
        if hold is not None:
            self.assertIs(is_hold(Rows(rows, field), 3, game.kept_rows(), game.free_rows(), *hold), True)

    def test_frames(self):
        random = Random(27)
        halves = [(one, two) for half in (range(6), range(6, 12)) for one in half for two in half if one < two]
        for bars in ([], [(0, 1)] * 60, halves * 2, some_bars(random, 12, 60), some_bars(random, 12, 22),
                     [(at, (at + step) % 12) for step in range(1, 6) for at in range(12)]):
            lot = sound_bars(12, bars)
            self.assertIsNone(overfull(12, [bars[bar] for bar in lot]))
            self.assertEqual(strength(12, bars), len(lot))
            some = overfull(12, bars)
            self.assertEqual(some is None, len(lot) == len(bars))
            self.assertTrue(some is None or between(bars, some) > 2 * len(some) - 3)
            spare = spare_bars(12, bars)
            for bar in range(0, len(bars), 7):
                self.assertEqual(bar in spare, strength(12, bars[:bar] + bars[bar + 1:]) == len(lot))
            more = more_bars(12, bars)
            self.assertEqual(len(more), 21 - len(lot))
            self.assertIs(is_stiff(12, bars), more == [])
            self.assertIs(is_stiff(12, [bars[bar] for bar in lot] + more), True)
            parts = stiff_parts(12, bars)
            self.assertTrue(all(sum(between([bar], some) for some in parts) == 1 for bar in bars))
        self.assertEqual(stiff_parts(12, halves * 2), [list(range(6)), list(range(6, 12))])
        self.assertEqual(more_bars(12, halves * 2), [(0, 6), (0, 7), (1, 6)])

    def test_rooted_woods(self):
        random = Random(28)
        rounds = [(at, (at + step) % 12) for step in range(1, 6) for at in range(12)]
        for ways in (rounds, some_ways(random, 12, 60), [(0, place) for place in range(1, 12)] * 5,
                     [(at, at + 1) for at in range(11)] * 5, []):
            most = most_rooted(12, ways, 0)
            for count in (0, most, most + 1, 60):
                word, told = rooted(12, ways, 0, count)
                self.assertEqual(word, "woods" if count <= most else "places")
                if word == "woods":
                    self.assertTrue(all(is_rooted(12, ways, 0, wood) for wood in told))
                    self.assertEqual(len({way for wood in told for way in wood}), 11 * count)
                else:
                    self.assertLess(len([way for way in ways if enters(way, told)]), count)
            self.check_prices(ways, [random.randrange(1 - 10 ** 31, 10 ** 31) for _ in ways], most)
            self.check_prices(ways, [random.randrange(10 ** 30, 10 ** 31) for _ in ways], most)
            self.check_prices(ways, [10 ** 31 - 1] * len(ways), most)

    def check_prices(self, ways, prices, most):
        found, paper = cheapest_rooted(12, ways, 0, prices), rooted_paper(12, ways, 0, prices)
        self.assertEqual([found is None, paper is None], [most == 0] * 2)
        if found is not None:
            self.assertIs(is_rooted(12, ways, 0, found[1]), True)
            self.assertEqual([sum(prices[way] for way in found[1]), sum(number for _, number in paper)], [found[0]] * 2)
            for way, price in zip(ways, prices):
                if way[1] not in (0, way[0]):
                    self.assertLessEqual(sum(number for some, number in paper if enters(way, some)), price)

    def test_dear_common_lots(self):
        random = Random(29)
        for kind in KINDS:
            for other_kind in KINDS:
                for field in (0, 11):
                    one, other = Rows(kind(30)[:30]), Rows(other_kind(31)[:30], field)
                    for low, high in ((1 - 10 ** 31, 10 ** 31), (10 ** 30, 10 ** 31), (-3, 4), (7, 8)):
                        prices = [random.randrange(low, high) for _ in range(30)]
                        found = dear_common(one, other, prices)
                        self.assertEqual(len(found) - 1, len(common(one, other)[0]))
                        for size, (price, lot, split) in enumerate(found):
                            self.assertTrue(is_lot(lot, 30) and one.is_free(lot) and other.is_free(lot))
                            self.assertEqual([len(lot), sum(prices[row] for row in lot)], [size, price])
                            self.assertIs(is_split(one, other, prices, lot, split), True)
                            self.assertIs(is_split(one, other, prices, lot, split[1:]), False)


if __name__ == "__main__":
    unittest.main()
