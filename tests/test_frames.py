"""Frames in the plane (points 24, 25 and 26)."""

import unittest
from itertools import combinations
from random import Random

from brute import NOT_INTEGERS, NOT_LISTS, all_lots, all_ways, is_lot
from freelots.errors import BadWeb
from freelots.frames import is_stiff, more_bars, overfull, sound_bars, spare_bars, stiff_parts, strength
from freelots.lots import parted
from freelots.webs import web_rows
from test_webs import full, is_wood

CALLS = (strength, is_stiff, sound_bars, spare_bars, overfull, stiff_parts, more_bars)
# Six places that hold each other with just nine bars, no three of them all joined.
THREE_AND_THREE = [(one, two) for one in range(3) for two in range(3, 6)]
PRISM = [(0, 1), (1, 2), (0, 2), (3, 4), (4, 5), (3, 5), (0, 3), (1, 4), (2, 5)]
# Two places, each joined to six others: one bar is lacking.
TWO_AND_SIX = [(one, two) for one in range(2) for two in range(2, 8)]


def between(bars, some):
    """Return the number of bars between some places."""
    return len([bar for bar in bars if bar[0] in some and bar[1] in some])


def sets_of(places):
    return [some for some in all_lots(places) if len(some) > 1]


def is_sound(places, bars):
    return all(between(bars, some) <= 2 * len(some) - 3 for some in sets_of(places))


def greedy(places, bars):
    """Return the sound lot that comes if the bars are taken in order."""
    lot = []
    for index, bar in enumerate(bars):
        if is_sound(places, [bars[other] for other in lot] + [bar]):
            lot.append(index)
    return lot


def strength_of(places, bars):
    return len(greedy(places, bars))


def stiff_by_words(places, bars):
    return places <= 1 or strength_of(places, bars) == 2 * places - 3


def some_bars(random, places, many):
    """Return random bars, now and then in few places or with two between the same ones."""
    if places < 2:
        return []
    bars = [tuple(random.sample(range(places), 2)) for _ in range(many)]
    return [random.choice(bars) if random.random() < 0.15 else bar for bar in bars]


def frames(seed, count, most_places=5, most_bars=9):
    random = Random(seed)
    made = [(0, []), (1, []), (2, []), (2, [(1, 0)]), (2, [(0, 1), (1, 0)]), (3, full(3)), (4, full(4)), (5, full(5))]
    for _ in range(count):
        places = random.randint(2, most_places)
        made.append((places, some_bars(random, places, random.randint(0, most_bars))))
    return made


class StrengthTest(unittest.TestCase):

    def test_against_all_lots(self):
        for places, bars in frames(241, 60, most_bars=7):
            sound = [lot for lot in all_lots(len(bars)) if is_sound(places, [bars[bar] for bar in lot])]
            self.assertEqual(strength(places, bars), max(map(len, sound)))
            self.assertIs(is_stiff(places, bars), places < 2 or max(map(len, sound)) == 2 * places - 3)

    def test_sound_lots_to_which_no_bar_can_be_added(self):
        for places, bars in frames(242, 30, most_bars=7):
            sound = [lot for lot in all_lots(len(bars)) if is_sound(places, [bars[bar] for bar in lot])]
            for lot in sound:
                if not any(set(lot) < set(other) for other in sound):
                    self.assertEqual(len(lot), strength(places, bars))

    def test_sound_just_if_two_woods_hold_the_bars_and_any_of_them_twice(self):
        for places, bars in frames(243, 40, most_bars=6):
            for lot in all_lots(len(bars)):
                some = [bars[bar] for bar in lot]
                held = all(any(is_wood(places, one) and is_wood(places, two) for one, two in all_ways(some + [bar], 2))
                           for bar in some)
                self.assertEqual(held, is_sound(places, some))
                self.assertEqual(held, sound_bars(places, some) == list(range(len(some))))
                self.assertEqual(held, overfull(places, some) is None)

    def test_two_woods_of_larger_frames(self):
        random = Random(244)
        for places in range(2, 13):
            for many in (2 * places - 3, places, 2 * places):
                bars = some_bars(random, places, 60)
                bars = [bars[at] for at in sound_bars(places, bars)][:many]
                if random.random() < 0.5:
                    bars = bars + some_bars(random, places, 1)
                held = all(parted(web_rows(places, bars + [bar]), 2)[0] == "lots" for bar in bars)
                self.assertEqual(held, overfull(places, bars) is None)
                self.assertEqual(held, strength(places, bars) == len(bars))

    def test_bars_taken_in_order(self):
        for places, bars in frames(245, 150):
            found = sound_bars(places, bars)
            self.assertIs(type(found), list)
            self.assertEqual(found, greedy(places, bars))
            self.assertEqual(len(found), strength(places, bars))

    def test_spare_bars(self):
        for places, bars in frames(246, 150):
            most = strength_of(places, bars)
            told = [bar for bar in range(len(bars)) if strength_of(places, bars[:bar] + bars[bar + 1:]) == most]
            self.assertEqual(spare_bars(places, bars), told, (places, bars))

    def test_overfull_sets(self):
        told = 0
        for places, bars in frames(247, 150):
            found = overfull(places, bars)
            if is_sound(places, bars):
                self.assertIsNone(found)
                continue
            told += 1
            self.assertTrue(is_lot(found, places) and len(found) > 1)
            self.assertGreater(between(bars, found), 2 * len(found) - 3)
        self.assertGreater(told, 40)

    def test_few_places(self):
        for places in (0, 1):
            for bars in ([], ()):
                told = [call(places, bars) for call in CALLS]
                self.assertEqual(told, [0, True, [], [], None, [], []])
        self.assertEqual([call(2, []) for call in CALLS], [0, False, [], [], None, [], [(0, 1)]])
        self.assertEqual([call(2, [[1, 0]]) for call in CALLS], [1, True, [0], [], None, [[0, 1]], []])
        self.assertEqual([call(12, []) for call in CALLS][:6], [0, False, [], [], None, []])

    def test_two_bars_between_the_same_places(self):
        self.assertEqual([call(2, ((0, 1), (1, 0))) for call in CALLS],
                         [1, True, [0], [0, 1], [0, 1], [[0, 1]], []])
        self.assertEqual([call(3, [(0, 1), (1, 2), (0, 1)]) for call in CALLS],
                         [2, False, [0, 1], [0, 2], [0, 1], [[0, 1], [1, 2]], [(0, 2)]])
        self.assertEqual([call(2, [(0, 1)] * 60) for call in CALLS],
                         [1, True, [0], list(range(60)), [0, 1], [[0, 1]], []])

    def test_well_known_frames(self):
        self.assertEqual([call(6, THREE_AND_THREE) for call in CALLS],
                         [9, True, list(range(9)), [], None, [list(range(6))], []])
        self.assertEqual([call(6, PRISM) for call in CALLS],
                         [9, True, list(range(9)), [], None, [list(range(6))], []])
        self.assertEqual(stiff_parts(6, PRISM[:-1]), [[0, 1, 2], [0, 3], [1, 4], [3, 4, 5]])
        self.assertEqual(more_bars(6, PRISM[:-1]), [(0, 4)])
        for places in range(2, 12):
            bars = full(places)
            self.assertEqual(strength(places, bars), 2 * places - 3)
            self.assertIs(is_stiff(places, bars), True)
            self.assertEqual(spare_bars(places, bars), list(range(len(bars))) if places > 3 else [])
            self.assertEqual(stiff_parts(places, bars), [list(range(places))])
        self.assertEqual([call(8, TWO_AND_SIX) for call in CALLS],
                         [12, False, list(range(12)), [], None, sorted(map(list, TWO_AND_SIX)), [(0, 1)]])
        self.assertEqual(strength(4, [(0, 1), (1, 2), (2, 3), (3, 0)]), 4)
        self.assertIs(is_stiff(4, [(0, 1), (1, 2), (2, 3), (3, 0)]), False)
        self.assertIs(is_stiff(4, [(0, 1), (1, 2), (2, 3), (3, 0), (0, 2)]), True)


class PartsTest(unittest.TestCase):

    def parts_by_words(self, places, bars):
        stiff = []
        for some in sets_of(places):
            inner = [(some.index(one), some.index(two)) for one, two in bars if one in some and two in some]
            if stiff_by_words(len(some), inner):
                stiff.append(some)
        return sorted(some for some in stiff if not any(set(some) < set(other) for other in stiff))

    def test_against_all_sets_of_places(self):
        for places, bars in frames(261, 120) + frames(262, 25, 6, 10):
            found = stiff_parts(places, bars)
            self.assertTrue(type(found) is list and all(type(some) is list for some in found))
            self.assertEqual(found, self.parts_by_words(places, bars), (places, bars))

    def test_one_place_in_common_and_each_bar_in_one(self):
        random = Random(263)
        for places in range(2, 13):
            for many in (places, 2 * places, 60):
                bars = some_bars(random, places, many)
                found = stiff_parts(places, bars)
                self.assertEqual(found, sorted(found))
                for one, two in combinations(found, 2):
                    self.assertLessEqual(len(set(one) & set(two)), 1)
                for bar in bars:
                    self.assertEqual(len([some for some in found if set(bar) <= set(some)]), 1)
                self.assertIs(is_stiff(places, bars), found == [list(range(places))])

    def test_parts_whose_bars_are_not_all_taken(self):
        # The bars that are taken first hold all places, so that of those of the last four some are left out.
        bars = [(0, 1), (0, 2), (0, 3), (0, 4), (1, 2), (2, 3), (3, 4), (1, 3), (1, 4), (2, 4)]
        self.assertEqual(stiff_parts(5, bars), [[0, 1, 2, 3, 4]])
        self.assertEqual(stiff_parts(6, bars + [(0, 5)]), [[0, 1, 2, 3, 4], [0, 5]])

    def more_by_words(self, places, bars):
        pairs = full(places)
        for size in range(2 * places + 1):
            for more in combinations(pairs, size):
                if stiff_by_words(places, bars + list(more)):
                    return list(more)
        return None

    def test_more_bars_against_trying_all(self):
        for places, bars in frames(264, 60, 5, 8):
            if strength_of(places, bars) >= 2 * places - 6:
                found = more_bars(places, bars)
                self.assertTrue(type(found) is list and all(type(pair) is tuple for pair in found))
                self.assertEqual(found, self.more_by_words(places, bars), (places, bars))

    def test_frames_without_bars(self):
        for places in range(5):
            self.assertEqual(more_bars(places, []), self.more_by_words(places, []))
        self.assertEqual(more_bars(3, []), [(0, 1), (0, 2), (1, 2)])
        for places in range(2, 13):
            told = sorted([(0, place) for place in range(1, places)] + [(1, place) for place in range(2, places)])
            self.assertEqual(more_bars(places, ()), told)

    def test_stiff_frames_need_no_more(self):
        random = Random(265)
        for places in range(13):
            for bars in ([], some_bars(random, places, places), some_bars(random, places, 60)):
                found = more_bars(places, bars)
                self.assertEqual(found, sorted(found))
                self.assertTrue(all(0 <= one < two < places for one, two in found))
                self.assertEqual(found == [], is_stiff(places, bars))
                self.assertEqual(len(found), max(0, 2 * places - 3) - strength(places, bars))
                if len(bars) + len(found) <= 60:
                    self.assertIs(is_stiff(places, bars + found), True)
                    self.assertEqual(more_bars(places, bars + found), [])


class RefusedTest(unittest.TestCase):

    def refused(self, place, places, bars):
        for call in CALLS:
            with self.assertRaises(BadWeb) as caught:
                call(places, bars)
            self.assertEqual(caught.exception.place, place)

    def test_places(self):
        for places in [-1, 13, 10 ** 31, -12, *NOT_INTEGERS]:
            for bars in ([], None, [(0, 0)], [(0, 1)] * 61):
                self.refused(-1, places, bars)

    def test_bars_that_are_no_list(self):
        for bars in NOT_LISTS:
            self.refused(0, 3, bars)

    def test_things_that_are_no_bars(self):
        things = [(0, 0), (2, 2), [1, 1], (0, 3), (3, 0), (-1, 0), (0, -1), (0,), (0, 1, 2), (), [0], (0, 10 ** 31),
                  ((0, 1),), "01", {0: 0, 1: 1}, *NOT_LISTS, *NOT_INTEGERS]
        things += [pair for thing in NOT_INTEGERS for pair in ((thing, 1), [1, thing], (thing, thing))]
        for thing in things:
            self.refused(0, 3, [thing, thing])
            self.refused(2, 3, ((0, 1), (2, 1), thing, (0, 1)))
            self.refused(59, 3, [(0, 1)] * 59 + [thing])
        self.refused(0, 0, [(0, 1)])
        self.refused(0, 1, [(0, 0)])
        self.refused(1, 2, [(0, 1), (1, 2)])
        self.refused(0, 12, [(0, 12)])

    def test_more_than_60_bars(self):
        for many in (61, 500):
            self.refused(60, 3, [(0, 1)] * many)
        for place in (0, 59, 60, 61, 499):
            for thing in ((1, 1), (1, 3), None, (True, 0)):
                bars = [(0, 1)] * 500
                bars[place] = thing
                self.refused(place, 3, bars)
        self.assertEqual(strength(3, [(0, 1)] * 60), 1)


if __name__ == "__main__":
    unittest.main()
