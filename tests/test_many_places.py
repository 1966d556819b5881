"""Frames of many places: the same answers as by counts of all sets of places, and sooner (points 24, 25 and 26)."""

import unittest
from itertools import combinations
from random import Random
from time import process_time

from freelots.frames import is_stiff, more_bars, overfull, sound_bars, spare_bars, stiff_parts, strength
from test_frames import some_bars
from test_webs import full

CALLS = (strength, is_stiff, sound_bars, spare_bars, overfull, stiff_parts, more_bars)
ASKED = (strength, is_stiff, spare_bars, stiff_parts, more_bars)
TWELVE = list(range(12))


def ring(places):
    return [[place, (place + 1) % places] for place in range(places)]


def fan(places):
    return [[0, place] for place in range(1, places)] + [[place, place + 1] for place in range(1, places - 1)]


def wheel(places):
    return fan(places) + [[1, places - 1]]


def triangles(places):
    return [[place, place + 1] for place in range(places - 1)] + [[place, place + 2] for place in range(places - 2)]


TEN_AND_THREE = triangles(10) + [[9, 10], [9, 11], [10, 11]]
NAMED = [ring(12), fan(12), wheel(12), triangles(12), TEN_AND_THREE, []]


class Counted:
    """The answers by the words of the document, with a count for each set of two or more places."""

    def __init__(self, places, bars):
        self.places, self.bars = places, [frozenset(bar) for bar in bars]
        self.sets = [frozenset(place for place in range(places) if mask >> place & 1) for mask in range(1 << places)]
        self.sets = [some for some in self.sets if len(some) > 1]
        self.lot, self.rooms = self.taken(self.bars)

    def taken(self, bars):
        rooms = {some: 2 * len(some) - 3 for some in self.sets}
        lot = []
        for index, bar in enumerate(bars):
            around = [some for some in self.sets if bar <= some]
            if all(rooms[some] > 0 for some in around):
                lot.append(index)
                for some in around:
                    rooms[some] -= 1
        return lot, rooms

    def spare(self, index):
        left = self.bars[:index] + self.bars[index + 1:]
        return len(self.taken(left)[0]) == len(self.lot)

    def overfull(self):
        for some in self.sets:
            if len([bar for bar in self.bars if bar <= some]) > 2 * len(some) - 3:
                return sorted(some)
        return None

    def stiff_parts(self):
        stiff = [some for some in self.sets if self.rooms[some] == 0]
        return sorted(sorted(some) for some in stiff if not any(some < other for other in stiff))

    def more_bars(self):
        pairs = list(combinations(range(self.places), 2))
        lot, _ = self.taken(self.bars + [frozenset(pair) for pair in pairs])
        return [pairs[index - len(self.bars)] for index in lot if index >= len(self.bars)]

    def answers(self):
        """Return what all functions tell, but for the spare bars."""
        many = len(self.lot)
        stiff = self.places < 2 or many == 2 * self.places - 3
        return [many, stiff, self.lot, self.overfull(), self.stiff_parts(), self.more_bars()]


class NamedTest(unittest.TestCase):

    def told(self, places, bars):
        return [call(places, bars) for call in CALLS]

    def test_ring(self):
        parts = sorted(sorted(bar) for bar in ring(12))
        more = more_bars(12, ring(12))
        self.assertEqual(self.told(12, ring(12)), [12, False, TWELVE, [], None, parts, more])
        self.assertEqual(more, [(0, place) for place in range(2, 11)])

    def test_fan(self):
        self.assertEqual(self.told(12, fan(12)), [21, True, list(range(21)), [], None, [TWELVE], []])

    def test_wheel(self):
        told = [21, True, list(range(21)), list(range(22)), TWELVE, [TWELVE], []]
        self.assertEqual(self.told(12, wheel(12)), told)

    def test_row_of_triangles(self):
        self.assertEqual(self.told(12, triangles(12)), [21, True, list(range(21)), [], None, [TWELVE], []])

    def test_row_of_ten_places_with_a_triangle_at_its_last_one(self):
        told = [20, False, list(range(20)), [], None, [TWELVE[:10], [9, 10, 11]], [(0, 10)]]
        self.assertEqual(self.told(12, TEN_AND_THREE), told)

    def test_no_bars(self):
        more = [(0, place) for place in range(1, 12)] + [(1, place) for place in range(2, 12)]
        self.assertEqual(self.told(12, []), [0, False, [], [], None, [], more])

    def test_each_number_of_places(self):
        for places in range(4, 13):
            most, every = 2 * places - 3, list(range(places))
            for bars in (fan(places), triangles(places)):
                self.assertEqual(self.told(places, bars), [most, True, list(range(most)), [], None, [every], []])
            told = [most, True, list(range(most)), list(range(most + 1)), every, [every], []]
            self.assertEqual(self.told(places, wheel(places)), told)
            self.assertEqual(strength(places, ring(places)), min(places, most))

    def test_places_called_otherwise(self):
        random = Random(266)
        for bars in NAMED:
            names = random.sample(range(12), 12)
            turned = [[names[place] for place in random.sample(bar, 2)] for bar in bars]
            self.assertEqual(strength(12, turned), strength(12, bars))
            self.assertEqual(spare_bars(12, turned), spare_bars(12, bars))
            parts = sorted(sorted(names[place] for place in part) for part in stiff_parts(12, bars))
            self.assertEqual(stiff_parts(12, turned), parts)


class CountedTest(unittest.TestCase):

    def frames(self):
        random = Random(267)
        for places in range(13):
            for many in (0, places, 2 * places, 60):
                yield places, some_bars(random, places, many)
        for places in (8, 10, 12):
            # Sound lots with as many bars as can be, one bar less, and some more.
            bars = some_bars(random, places, 60)
            bars = [bars[index] for index in sound_bars(places, bars)]
            yield places, bars
            yield places, bars[:-1]
            yield places, bars[2:] + some_bars(random, places, 2)
        for bars in NAMED:
            yield 12, bars
        # The sets of many places have by far more bars than room.
        yield 12, full(11)
        yield 12, [(one, two) for one, two in full(12) if two < 11] + [(10, 11)] * 5

    def test_all_but_the_spare_bars(self):
        for places, bars in self.frames():
            told = [call(places, bars) for call in (strength, is_stiff, sound_bars, overfull, stiff_parts, more_bars)]
            self.assertEqual(told, Counted(places, bars).answers(), (places, bars))

    def test_spare_bars(self):
        random = Random(268)
        for places in range(2, 10):
            for many in (places, 2 * places - 2, 2 * places + 2):
                bars = some_bars(random, places, many)
                counted = Counted(places, bars)
                told = [index for index in range(many) if counted.spare(index)]
                self.assertEqual(spare_bars(places, bars), told, (places, bars))

    def test_spare_bars_in_parts_of_larger_frames(self):
        # Six bars between four places are spare, in whatever order they come, and what is fixed to them is not.
        random = Random(269)
        for _ in range(30):
            names = random.sample(range(12), 12)
            bars = [(bar, True) for bar in full(4)] + [((one + 8, two + 8), True) for one, two in full(4)]
            bars += [((place, place + 1), False) for place in range(3, 8)] + [((3, 5), False), ((6, 8), False)]
            random.shuffle(bars)
            turned = [(names[one], names[two]) for (one, two), _ in bars]
            told = [index for index, (_, spare) in enumerate(bars) if spare]
            self.assertEqual(spare_bars(12, turned), told)


class TimeTest(unittest.TestCase):

    def seconds(self, calls, frames):
        """Return the least time in seconds, of three, in which calls answer for all frames."""
        taken = []
        for _ in range(3):
            start = process_time()
            for bars in frames:
                for call in calls:
                    call(12, bars)
            taken.append(process_time() - start)
        return min(taken)

    def test_a_third_of_the_time_that_counts_of_all_sets_take(self):
        # What took the time was that each set around a bar was asked for its room, and then given less of it.
        def count(places, bars):
            rooms = {mask: 2 * mask.bit_count() - 3 for mask in range(1 << places) if mask.bit_count() > 1}
            for one, two in bars:
                ends = (1 << one) + (1 << two)
                around = [mask for mask in rooms if mask & ends == ends]
                if all([rooms[mask] > 0 for mask in around]):
                    for mask in around:
                        rooms[mask] -= 1

        def count_more(places, bars):
            count(places, bars + list(combinations(range(places), 2)))

        frames = [bars for bars in NAMED if bars]
        self.assertLess(3 * self.seconds(ASKED, frames), self.seconds([count] * 4 + [count_more], frames))
        self.assertLess(3 * self.seconds([more_bars], [[]]), self.seconds([count_more], [[]]))


if __name__ == "__main__":
    unittest.main()
