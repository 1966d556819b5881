"""Rooted woods of directed webs (points 27 and 28)."""

import unittest
from itertools import combinations
from random import Random

from brute import NOT_INTEGERS, NOT_LISTS, all_lots, is_lot
from freelots.errors import BadCount, BadPrices, BadRoot, BadWeb
from freelots.rooted import cheapest_rooted, is_rooted, most_rooted, rooted, rooted_paper


def is_rooted_by_words(places, ways, root, wood):
    if not is_lot(wood, len(ways)):
        return False
    led = [ways[index][1] for index in wood]
    if root in led or not all(led.count(place) == 1 for place in range(places) if place != root):
        return False
    reached = {root}
    for _ in range(places):
        reached |= {ways[index][1] for index in wood if ways[index][0] in reached}
    return reached == set(range(places))


def all_woods(places, ways, root):
    return [list(wood) for wood in combinations(range(len(ways)), places - 1)
            if is_rooted_by_words(places, ways, root, list(wood))]


def enters(way, some):
    return way[0] not in some and way[1] in some


def sets_without(places, root):
    return [some for some in all_lots(places) if some and root not in some]


def least_entered(places, ways, root):
    return min(len([way for way in ways if enters(way, some)]) for some in sets_without(places, root))


def most_apart(woods):
    """Return the greatest number of woods no two of which have a way in common."""
    return max([0] + [1 + most_apart([other for other in woods[at + 1:] if not set(wood) & set(other)])
                      for at, wood in enumerate(woods)])


def some_ways(random, places, many):
    """Return random ways: some twice, some from a place to itself, some along a round of all places."""
    ways = [(random.randrange(places), random.randrange(places)) for _ in range(many)]
    ways = [random.choice(ways) if random.random() < 0.2 else way for way in ways]
    return [(way[0], (way[0] + 1) % places) if random.random() < 0.2 else way for way in ways]


def webs(seed, count, most_places=4, most_ways=8):
    random = Random(seed)
    made = [(1, [], 0), (1, [(0, 0)], 0), (2, [], 1), (2, [(0, 1), (1, 0)], 0), (3, [(0, 1), (1, 2), (2, 0)] * 2, 1)]
    for _ in range(count):
        places = random.randint(1, most_places)
        made.append((places, some_ways(random, places, random.randint(0, most_ways)), random.randrange(places)))
    return made


def some_prices(random, many):
    kind = random.randrange(5)
    if kind == 0:
        return [random.randint(-2, 2)] * many
    if kind == 4:
        return [random.choice((-1, 1)) * random.randrange(10 ** 30, 10 ** 31) for _ in range(many)]
    low, high = ((0, 2), (-9, 9), (-5, -1))[kind - 1]
    return [random.randint(low, high) for _ in range(many)]


class WoodsTest(unittest.TestCase):

    def check(self, places, ways, root, count):
        found = rooted(places, ways, root, count)
        self.assertIs(type(found), tuple)
        word, told = found
        self.assertIs(type(told), list)
        if word == "woods":
            self.assertEqual(len(told), count)
            self.assertTrue(all(type(wood) is list for wood in told))
            self.assertTrue(all(is_rooted_by_words(places, ways, root, wood) for wood in told))
            taken = [way for wood in told for way in wood]
            self.assertEqual(len(taken), len(set(taken)))
        else:
            self.assertEqual(word, "places")
            self.assertTrue(told and is_lot(told, places) and root not in told)
            self.assertLess(len([way for way in ways if enters(way, told)]), count)
        return word

    def test_against_all_sets_of_places(self):
        for places, ways, root in webs(271, 250, 5, 14):
            if places == 1:
                continue
            most = least_entered(places, ways, root)
            self.assertEqual(most_rooted(places, ways, root), most)
            for count in (0, 1, most, most + 1, 60):
                self.assertEqual(self.check(places, ways, root, count), "woods" if count <= most else "places")

    def test_against_all_woods(self):
        for places, ways, root in webs(272, 120):
            if places > 1:
                most = most_apart(all_woods(places, ways, root))
                self.assertEqual(most_rooted(places, ways, root), most)
                self.assertEqual(self.check(places, ways, root, most), "woods")
                self.assertEqual(self.check(places, ways, root, most + 1), "places")

    def test_one_place_alone(self):
        for ways in ([], [(0, 0)], [(0, 0)] * 60):
            for count in (0, 1, 2, 60):
                self.assertEqual(rooted(1, ways, 0, count), ("woods", [[]] * count))
            self.assertIsNone(most_rooted(1, ways, 0))
            self.assertIs(is_rooted(1, ways, 0, []), True)
            self.assertIs(is_rooted(1, ways, 0, [0]), False)
        told = rooted(1, [], 0, 3)[1]
        told[0].append(5)
        self.assertEqual(told, [[5], [], []])

    def test_counts_0_and_60(self):
        self.assertEqual(rooted(3, [], 0, 0), ("woods", []))
        self.assertEqual(self.check(2, [(0, 1)] * 60, 0, 60), "woods")
        self.assertEqual(self.check(2, [(0, 1)] * 59, 0, 60), "places")
        self.assertEqual(self.check(2, [(0, 1)] * 59 + [(1, 0)], 0, 60), "places")
        self.assertEqual(self.check(2, [(0, 1)] * 59 + [(1, 1)], 0, 60), "places")
        self.assertEqual(self.check(12, [(0, 1)] * 60, 0, 60), "places")

    def test_ways_that_no_wood_has(self):
        ways = [(0, 0), (1, 0), (1, 1), (0, 1), (2, 0), (1, 2), (2, 2)]
        self.assertEqual(rooted(3, ways, 0, 1), ("woods", [[3, 5]]))
        self.assertEqual(most_rooted(3, ways, 0), 1)
        self.assertEqual(most_rooted(3, ways, 2), 1)
        self.assertEqual(most_rooted(2, [(0, 0), (1, 0), (1, 1)], 0), 0)

    def test_the_same_way_twice(self):
        ways = [(0, 1), (0, 1), (1, 2), (1, 2)]
        self.assertEqual(self.check(3, ways, 0, 2), "woods")
        self.assertEqual(self.check(3, ways[:3], 0, 2), "places")
        self.assertEqual(most_rooted(3, ways, 0), 2)

    def test_ways_that_have_to_be_kept_for_later_woods(self):
        # If the first wood took both ways from the root, none would be left for the next one.
        ways = [(0, 1), (0, 2), (1, 2), (2, 1)]
        self.assertEqual(self.check(3, ways, 0, 2), "woods")
        random = Random(273)
        for places in range(3, 13):
            for many in (1, 2, 60 // (places - 1)):
                ways = []
                for _ in range(many):
                    reached = [5 % places]
                    for place in random.sample([at for at in range(places) if at not in reached], places - 1):
                        ways.append((random.choice(reached), place))
                        reached.append(place)
                random.shuffle(ways)
                self.assertEqual(self.check(places, ways, 5 % places, many), "woods")

    def test_is_rooted_against_all_lots(self):
        told = 0
        for places, ways, root in webs(274, 60, 4, 7):
            for wood in all_lots(len(ways)):
                for bent in (wood, wood[::-1], wood + [len(ways)], [-1] + wood, wood + wood[-1:], tuple(wood)):
                    found = is_rooted(places, ways, root, bent)
                    self.assertIs(found, is_rooted_by_words(places, ways, root, list(bent)))
                    told += found
        self.assertGreater(told, 100)

    def test_no_rooted_woods(self):
        ways = [(0, 1), (1, 2), (2, 1), (0, 2), (2, 0), (1, 1)]
        self.assertIs(is_rooted(3, ways, 0, [0, 1]), True)
        self.assertIs(is_rooted(3, ways, 0, (0, 3)), True)
        for wood in ([], [0], [0, 2], [1, 2], [0, 1, 3], [0, 1, 4], [1, 0], [0, 0], [1, 5], [0, 1, 5], [0, 10 ** 31]):
            self.assertIs(is_rooted(3, ways, 0, wood), False)


class CheapestTest(unittest.TestCase):

    def check(self, places, ways, root, prices):
        """Check the wood and that the paper shows its price; return the price."""
        found, paper = cheapest_rooted(places, ways, root, prices), rooted_paper(places, ways, root, prices)
        if found is None:
            self.assertIsNone(paper)
            return None
        self.assertIs(type(found), tuple)
        price, wood = found
        self.assertIs(type(wood), list)
        self.assertTrue(is_rooted_by_words(places, ways, root, wood))
        self.assertEqual(price, sum(prices[way] for way in wood))
        self.assertIs(type(paper), list)
        for pair in paper:
            self.assertIs(type(pair), tuple)
            some, number = pair
            self.assertTrue(type(some) is list and is_lot(some, places) and some and root not in some)
            self.assertTrue(type(number) is int and (len(some) == 1 or number > 0))
        self.assertEqual(len({tuple(some) for some, _ in paper}), len(paper))
        for (tail, head), most in zip(ways, prices):
            if head not in (root, tail):
                self.assertLessEqual(sum(number for some, number in paper if enters((tail, head), some)), most)
        self.assertEqual(sum(number for _, number in paper), price)
        return price

    def test_against_all_woods(self):
        random = Random(281)
        for places, ways, root in webs(281, 300, 5, 9):
            prices = some_prices(random, len(ways))
            woods = all_woods(places, ways, root)
            least = min([sum(prices[way] for way in wood) for wood in woods], default=None)
            self.assertEqual(self.check(places, ways, root, prices), least, (places, ways, root, prices))

    def test_larger_webs(self):
        random = Random(282)
        for places in range(2, 13):
            for _ in range(12):
                ways = some_ways(random, places, random.randint(places, 60))
                prices = some_prices(random, len(ways))
                root = random.randrange(places)
                told = self.check(places, ways, root, prices)
                self.assertEqual(told is None, least_entered(places, ways, root) == 0)

    def test_rounds_within_rounds(self):
        # Going round is always cheaper than coming in, in ever larger rounds.
        ways = [(0, 1)] + [(at, at + 1) for at in range(1, 11)] + [(at, 1) for at in range(2, 12)]
        ways += [(0, at) for at in range(2, 12)]
        prices = [1000] + [1] * 10 + list(range(10)) + [900 + at for at in range(10)]
        self.assertEqual(self.check(12, ways, 0, prices), 909)
        self.assertGreater(len([some for some, _ in rooted_paper(12, ways, 0, prices) if len(some) > 1]), 0)
        self.assertEqual(self.check(12, ways, 0, [-price for price in prices]), -1000 - sum(range(900, 910)))

    def test_prices_alike(self):
        ways = [(0, 1), (1, 2), (2, 1), (0, 2)]
        for price in (0, 1, -1, 10 ** 31 - 1, -10 ** 31 + 1):
            self.assertEqual(self.check(3, ways, 0, [price] * 4), 2 * price)

    def test_prices_below_0(self):
        self.assertEqual(self.check(2, [(0, 1), (0, 1), (1, 0), (1, 1)], 0, [-3, -4, -100, -100]), -4)
        self.assertEqual(cheapest_rooted(2, [(0, 1), (0, 1), (1, 0), (1, 1)], 0, [-3, -4, -100, -100]), (-4, [1]))
        self.assertEqual(rooted_paper(2, [(0, 1)], 0, (-3,)), [([1], -3)])
        self.assertEqual(self.check(3, [(0, 1), (1, 2), (2, 1)], 0, [5, -7, -9]), -2)

    def test_one_place_alone(self):
        for ways in ([], [(0, 0)], [(0, 0)] * 60):
            for price in (-5, 0, 5):
                self.assertEqual(cheapest_rooted(1, ways, 0, [price] * len(ways)), (0, []))
                self.assertEqual(rooted_paper(1, ways, 0, [price] * len(ways)), [])

    def test_no_rooted_wood(self):
        for places, ways, root in ((2, [], 0), (2, [(1, 0)], 0), (3, [(1, 2), (2, 1)], 0), (3, [(0, 1), (1, 1)], 0),
                                   (12, [(0, at) for at in range(1, 11)], 0), (2, [(0, 1)], 1)):
            for price in (-1, 0, 1):
                self.assertIsNone(cheapest_rooted(places, ways, root, [price] * len(ways)))
                self.assertIsNone(rooted_paper(places, ways, root, [price] * len(ways)))


CALLS = ((rooted, 1), (most_rooted, None), (is_rooted, []), (cheapest_rooted, [1]), (rooted_paper, [1]))


class RefusedTest(unittest.TestCase):

    def refused(self, kind, told, *passed):
        """Check that all functions raise an error, whatever is passed behind."""
        for call, more in CALLS:
            for last in (more, None, -1, True, [None]):
                with self.assertRaises(kind) as caught:
                    call(*passed) if call == most_rooted else call(*passed, last)
                error = caught.exception
                found = error.place if kind == BadWeb else error.root
                self.assertEqual(found, told)
                self.assertIs(type(found), type(told))

    def test_places(self):
        for places in [-1, 0, 13, 10 ** 31, *NOT_INTEGERS]:
            for ways in ([], None, [(0, 99)], [(0, 0)] * 61):
                for root in (0, -1, None):
                    self.refused(BadWeb, -1, places, ways, root)

    def test_ways_that_are_no_list(self):
        for ways in NOT_LISTS:
            for root in (0, 5, None):
                self.refused(BadWeb, 0, 3, ways, root)

    def test_things_that_are_no_ways(self):
        things = [(0, 3), (3, 0), (-1, 0), (0, -1), (0,), (0, 1, 2), (), (0, 10 ** 31), "01", *NOT_LISTS, *NOT_INTEGERS]
        things += [pair for thing in NOT_INTEGERS for pair in ((thing, 1), [1, thing])]
        for thing in things:
            for root in (0, 3):
                self.refused(BadWeb, 0, 3, [thing, thing], root)
                self.refused(BadWeb, 2, 3, ((0, 1), (2, 2), thing), root)
                self.refused(BadWeb, 59, 3, [(0, 1)] * 59 + [thing], root)

    def test_more_than_60_ways(self):
        for root in (0, 9):
            self.refused(BadWeb, 60, 3, [(0, 1)] * 61, root)
            self.refused(BadWeb, 60, 3, [(1, 1)] * 500, root)
            for place in (0, 59, 60, 61, 499):
                ways = [(0, 1)] * 500
                ways[place] = (0, 3)
                self.refused(BadWeb, place, 3, ways, root)
        self.assertEqual(most_rooted(2, [(0, 1)] * 60, 0), 60)

    def test_roots(self):
        for places in (1, 3, 12):
            for root in [-1, places, 10 ** 31]:
                self.refused(BadRoot, root, places, [(0, 0)], root)
        for root in [*NOT_INTEGERS, *[thing for thing in NOT_LISTS if type(thing) is not int]]:
            for ways in ([], [(0, 1)] * 60):
                for call, more in CALLS:
                    with self.assertRaises(BadRoot) as caught:
                        call(3, ways, root) if call == most_rooted else call(3, ways, root, more)
                    self.assertIs(caught.exception.root, root)

    def test_counts(self):
        for count in [-1, 61, 10 ** 31, *NOT_INTEGERS]:
            for places, ways in ((1, []), (3, [(0, 1), (1, 2)])):
                with self.assertRaises(BadCount) as caught:
                    rooted(places, ways, 0, count)
                self.assertIs(caught.exception.count, count)

    def test_prices(self):
        ways = [(0, 1), (1, 0), (1, 1)]
        cases = [(0, prices) for prices in [*NOT_LISTS, [], [1], [1, 2], (1, 2, 3, 4), [None] * 4]]
        for thing in NOT_INTEGERS:
            cases += [(0, [thing, thing, 1]), (1, (1, thing, thing)), (2, [1, -10 ** 31, thing])]
        for index, prices in cases:
            for call in (cheapest_rooted, rooted_paper):
                for root in (0, 1):
                    with self.assertRaises(BadPrices) as caught:
                        call(2, ways, root, prices)
                    self.assertEqual(caught.exception.index, index)
        for call in (cheapest_rooted, rooted_paper):
            with self.assertRaises(BadPrices):
                call(1, [], 0, [1])
            with self.assertRaises(BadPrices):
                call(2, [], 0, None)


if __name__ == "__main__":
    unittest.main()
