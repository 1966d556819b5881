"""All that the document says to hold, on small inputs, of what the package itself tells."""

import unittest
from itertools import combinations, product
from random import Random

from brute import all_lots, small_tables
from freelots.bases import most_apart
from freelots.common import common
from freelots.dear import dear_common, is_split
from freelots.frames import is_stiff, overfull, sound_bars, stiff_parts, strength
from freelots.games import Game, is_hold
from freelots.lots import bound, fewest, is_many, is_placing, parted
from freelots.rooted import is_rooted, most_rooted, rooted
from freelots.rows import Rows
from freelots.thick import layers
from freelots.webs import web_rows
from test_frames import between, frames, sets_of
from test_rooted import enters, sets_without, webs


def tables(seed, count, **limits):
    return [Rows(rows, field) for rows, field in small_tables(seed, count, **limits)]


def within(lot):
    return [list(some) for size in range(len(lot) + 1) for some in combinations(lot, size)]


class RowsTest(unittest.TestCase):

    def test_free_lots_that_cannot_be_longer(self):
        for table in tables(401, 56, most_rows=5):
            for lot in all_lots(len(table)):
                for free in within(lot):
                    more = [sorted(free + [row]) for row in lot if row not in free]
                    if table.is_free(free) and not any(table.is_free(longer) for longer in more):
                        self.assertEqual(len(free), table.rank(lot))

    def rings(self, table):
        for lot in all_lots(len(table)):
            if not table.is_free(lot) and all(table.is_free([row for row in lot if row != left]) for left in lot):
                yield lot

    def sums_to_zeros(self, table, ring, numbers):
        sums = [sum(number * table.row_at(row)[at] for row, number in zip(ring, numbers)) for at in range(table.width)]
        return not any(total % table.field if table.field else total for total in sums)

    def test_rings_have_just_one_relation(self):
        for table in tables(402, 112, most_rows=5, most_width=2):
            for ring in self.rings(table):
                told = tuple(table.ring(ring).values())
                tries = range(1, table.field) if table.field else range(-12, 13)
                if max(told) in tries and min(told) in tries:
                    # All others are tried of which the first row has the same integer.
                    found = [numbers for numbers in product([told[0]], *[tries] * (len(ring) - 1))
                             if 0 not in numbers and self.sums_to_zeros(table, ring, numbers)]
                    self.assertEqual(found, [told])

    def test_lots_that_are_not_free_have_a_ring_within_them(self):
        for table in tables(403, 56):
            rings = [set(ring) for ring in self.rings(table)]
            for lot in all_lots(len(table)):
                self.assertEqual(table.is_free(lot), not any(ring <= set(lot) for ring in rings))

    def test_partings(self):
        for table in tables(404, 84):
            for count in range(4):
                some = any(is_many(table, count, lot) for lot in all_lots(len(table)))
                self.assertEqual(parted(table, count)[0], "many" if some else "lots")

    def test_placings(self):
        random = Random(405)
        for one in tables(405, 42, most_rows=5):
            pair = [one, Rows([[random.randint(-1, 1), row] for row in range(len(one))], 3)]
            sizes = [random.randint(0, 3) for _ in pair]
            lots = all_lots(len(one))
            most = max(len(some) + len(more) for some in lots for more in lots if is_placing(pair, sizes, [some, more]))
            self.assertEqual(most, min(bound(pair, sizes, lot) for lot in lots))

    def test_layers(self):
        for table in tables(406, 140):
            if len(table) > 0 and not table.hull([]):
                (top, bottom, _), (less, part, _) = layers(table)[0], layers(table)[-1]
                self.assertEqual(len(fewest(table)[1]), -(-top // bottom))
                self.assertEqual(most_apart(table), less // part)

    def test_holds(self):
        random = Random(407)
        told = {True: 0, False: 0}
        for table in tables(407, 84, most_rows=6):
            for goal in range(len(table)):
                game = Game(table, goal, random.choice(("keep", "cut")))
                while game.turn() is not None:
                    if game.turn() == "cut":
                        kept, free = game.kept_rows(), game.free_rows()
                        lots = within(free)
                        some = any(is_hold(table, goal, kept, free, one, two) for one in lots for two in lots)
                        self.assertEqual(game.winner(), "keep" if some else "cut")
                        told[some] += 1
                    game.take(random.choice(game.winning() or game.free_rows()))
        self.assertGreater(min(told.values()), 20)

    def test_dear_common_lots(self):
        random = Random(408)
        for one in tables(408, 28, most_rows=4):
            many = len(one)
            other = Rows([[random.randint(-1, 1), random.randint(0, 1)] for _ in range(many)], 2)
            prices = [random.randint(-1, 2) for _ in range(many)]
            best = {len(lot): price for price, lot, _ in dear_common(one, other, prices)}
            self.assertEqual(max(best), len(common(one, other)[0]))
            # All splits with small integers; those that are told show all dearest lots.
            splits = [[(first, price - first) for first, price in zip(firsts, prices)]
                      for firsts in product(range(-2, 3), repeat=many)]
            splits += [split for _, _, split in dear_common(one, other, prices)]
            for lot in all_lots(many):
                free = one.is_free(lot) and other.is_free(lot)
                dear = free and sum(prices[row] for row in lot) == best[len(lot)]
                self.assertEqual(any(is_split(one, other, prices, lot, split) for split in splits), dear)


class WebsTest(unittest.TestCase):

    def test_sound_lots_that_cannot_be_longer(self):
        for places, bars in frames(411, 40, most_bars=7):
            lots = all_lots(len(bars))
            sound = [lot for lot in lots if overfull(places, [bars[bar] for bar in lot]) is None]
            for lot in sound:
                if not any(sorted(lot + [bar]) in sound for bar in range(len(bars)) if bar not in lot):
                    self.assertEqual(len(lot), strength(places, bars))

    def test_sound_just_if_two_woods_hold_each_bar_twice(self):
        for places, bars in frames(412, 60, most_bars=8):
            for size in (len(bars), len(bars) - 1, 3):
                some = bars[:max(size, 0)]
                held = all(parted(web_rows(places, some + [bar]), 2)[0] == "lots" for bar in some)
                self.assertEqual(len(sound_bars(places, some)) == len(some), held)
                self.assertEqual(overfull(places, some) is None, held)
                self.assertEqual(all(between(some, few) <= 2 * len(few) - 3 for few in sets_of(places)), held)

    def test_stiff_parts(self):
        for places, bars in frames(413, 80):
            parts = stiff_parts(places, bars)
            for one, two in combinations(parts, 2):
                self.assertLessEqual(len(set(one) & set(two)), 1)
            for bar in bars:
                self.assertEqual(len([some for some in parts if set(bar) <= set(some)]), 1)
            for some in parts:
                inner = [(some.index(one), some.index(two)) for one, two in bars if one in some and two in some]
                self.assertTrue(is_stiff(len(some), inner))

    def test_rooted_woods(self):
        for places, ways, root in webs(414, 100):
            if places == 1:
                continue
            woods = [wood for wood in all_lots(len(ways)) if is_rooted(places, ways, root, wood)]
            for count in range(4):
                some = any(len({way for wood in few for way in wood}) == count * (places - 1)
                           for few in combinations(woods, count))
                scarce = [few for few in sets_without(places, root)
                          if len([way for way in ways if enters(way, few)]) < count]
                self.assertEqual(some, not scarce)
                self.assertEqual(rooted(places, ways, root, count)[0], "woods" if some else "places")
                self.assertEqual(most_rooted(places, ways, root) >= count, some)


if __name__ == "__main__":
    unittest.main()
