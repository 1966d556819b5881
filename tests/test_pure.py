"""Values that depend on the arguments alone, and do not hang together with them (point 1)."""

import copy
import unittest
from random import Random

from brute import small_tables
from freelots.bases import apart, exchanges, most_apart, partners
from freelots.common import chosen, common
from freelots.dear import dear_common, is_split
from freelots.errors import BadHand, BadPrime, LotError, NotBase, TooMany
from freelots.fields import spoilt
from freelots.frames import is_stiff, more_bars, overfull, sound_bars, spare_bars, stiff_parts, strength
from freelots.games import Game, is_hold
from freelots.known import full_web, moments, seven, units
from freelots.live import Keeper
from freelots.lots import bound, fewest, is_many, is_parting, is_placing, parted, placed
from freelots.many import fewest_many, parted_many
from freelots.prices import cheapest, dearest, is_price_paper, price_paper
from freelots.rooted import cheapest_rooted, is_rooted, most_rooted, rooted, rooted_paper
from freelots.rows import Rows
from freelots.thick import are_layers, layer_papers, layers, thickest, thickness
from freelots.webs import web_rows, woods


def spoil(value):
    """Change all lists and dicts within a value."""
    if isinstance(value, (list, tuple)):
        for part in value:
            spoil(part)
    if isinstance(value, list):
        value.append("spoilt")
    if isinstance(value, dict):
        value["spoilt"] = "spoilt"


def web_text(places, ties):
    return web_rows(places, ties).text()


def base_of(table, rows):
    """Return the base that comes if rows are taken in this order, each if it is free with those taken."""
    base = []
    for row in rows:
        if table.is_free(sorted([*base, row])):
            base.append(row)
    return sorted(base)


def more_calls(table):
    """Return the calls of functions that rest on bases, prices and times."""
    many = len(table)
    rows = list(range(many))
    bases = [base_of(table, rows), base_of(table, rows[::-1])]
    prices = [row * 7 % 5 - 1 for row in rows]
    times = [row % 3 for row in rows]
    ties = [[row % 4, row // 2] for row in rows]
    told = [(apart, [table, 1]), (apart, [table, 3]), (most_apart, [table]), (exchanges, [table, *bases]),
            (partners, [table, *bases]), (web_text, [8, ties]), (woods, [8, ties]), (fewest_many, [table, times]),
            (parted_many, [table, times, 1]), (parted_many, [table, times, 10 ** 29])]
    for count in (0, 1, 2):
        passed = [table, count, prices]
        lots, paper = dearest(*passed)[1], price_paper(*passed)
        told += [(dearest, passed), (cheapest, passed), (price_paper, passed), (is_price_paper, [*passed, lots, paper])]
    return told


def layer_calls(table):
    """Return the calls of functions that rest on layers; none for a table with nought rows."""
    if table.hull([]):
        return []
    lots, papers = [lot for _, _, lot in layers(table)], layer_papers(table)
    return [(thickness, [table]), (thickest, [table]), (layers, [table]), (layer_papers, [table]),
            (are_layers, [table, lots, papers]), (are_layers, [table, lots[::-1], papers])]


def last_calls(table):
    """Return the calls of functions that rest on two tables, classes, primes and a goal."""
    many = len(table)
    rows = list(range(many))
    other = Rows([[row % 3, 1] for row in rows], 5)
    classes = [rows[:2], rows[1:], rows[::2]]
    told = [(common, [table, other]), (common, [other, table]), (common, [table, table]), (chosen, [table, classes]),
            (chosen, [table, classes * 3]), (chosen, [table, []])]
    prices = [row * 5 % 7 - 2 for row in rows]
    told += [(dear_common, [table, other, prices]), (dear_common, [other, table, prices])]
    told += [(is_split, [table, other, prices, lot, split]) for _, lot, split in dear_common(table, other, prices)]
    if table.field == 0:
        told += [(spoilt, [table, 2]), (spoilt, [table, 997])]
    if many > 0:
        told += [(is_hold, [table, 0, rows[1:2], rows[2:], rows[2:4], rows[4:6]]),
                 (is_hold, [table, 0, [], rows[1:], rows[1:2], rows[2:3]])]
    return told


def calls(table):
    """Return the calls of the functions and methods that return values, with their arguments."""
    rows = list(range(len(table)))
    halves = [rows[::2], rows[1::2]]
    tables, sizes = [table, table], [2, 60]
    return [(table.rank, [rows]), (table.is_free, [rows]), (table.hull, [rows[:1]]), (table.ring, [rows]),
            (table.text, []), (parted, [table, 1]), (parted, [table, 3]), (is_parting, [table, 2, halves]),
            (is_many, [table, 2, rows]), (fewest, [table]), (placed, [tables, sizes]),
            (is_placing, [tables, sizes, halves]), (bound, [tables, sizes, rows]), *more_calls(table),
            *layer_calls(table), *last_calls(table)]


def lived(table, seed):
    """Return what a keeper tells of some deeds."""
    random = Random(seed)
    keeper = Keeper(table, 2)
    told = []
    for _ in range(20):
        call = random.choice((keeper.come, keeper.come, keeper.go, keeper.less))
        try:
            told.append(call(random.randrange(len(table) + 1)))
        except TooMany as error:
            told.append(error.lot)
        except LotError as error:
            told.append(error.__class__)
        told.append(keeper.lots())
        if random.random() < 0.2 and len(keeper.lots()) < 4:
            told.append(keeper.more())
    return told


def web_calls():
    """Return the calls of functions that rest on places and pairs of them."""
    pairs = [[0, 1], [1, 2], [2, 0], [1, 0], [0, 2], [3, 1], [2, 3]]
    told = [(call, [4, bars]) for bars in (pairs, pairs[:2], []) for call in
            (strength, is_stiff, sound_bars, spare_bars, overfull, stiff_parts, more_bars)]
    for places, ways in ((4, pairs), (4, pairs[:3]), (3, pairs[:5] * 2), (1, [[0, 0]])):
        prices = [row * 3 % 5 - 1 for row in range(len(ways))]
        told += [(rooted, [places, ways, 0, count]) for count in (0, 1, 2, 5)]
        told += [(most_rooted, [places, ways, 0]), (is_rooted, [places, ways, 0, [0, 1, 6]]),
                 (cheapest_rooted, [places, ways, 0, prices]), (rooted_paper, [places, ways, 0, prices])]
    return told


def state(game):
    """Return all that a game tells of its position."""
    return [game.kept_rows(), game.cut_rows(), game.free_rows(), game.turn(), game.winner(), game.winning(),
            game.hold()]


def played(table, seed):
    """Return what games on a table tell of some deeds."""
    random = Random(seed)
    told = []
    for goal in range(min(2, len(table))):
        game = Game(table, goal, random.choice(("keep", "cut")))
        for _ in range(12):
            deed = random.choice((game.take, game.take, game.take, game.undo, game.again))
            try:
                told.append(deed(random.randrange(len(table))) if deed == game.take else deed())
            except LotError as error:
                told.append(error.__class__)
            told.append(state(game))
    return told


class PureTest(unittest.TestCase):

    def test_equal_arguments_give_equal_values(self):
        for rows, field in small_tables(41, 28):
            one, other = Rows(rows, field), Rows([tuple(row) for row in rows], field)
            for (call, passed), (same, others) in zip(calls(one), calls(other)):
                told = call(*passed)
                self.assertEqual(repr(told), repr(call(*passed)))
                self.assertEqual(repr(told), repr(same(*others)))
            self.assertEqual(repr(lived(one, 5)), repr(lived(other, 5)))
            self.assertEqual(repr(played(one, 5)), repr(played(other, 5)))

    def test_nothing_that_is_passed_is_changed(self):
        for rows, field in small_tables(42, 28):
            kept = copy.deepcopy(rows)
            table = Rows(rows, field)
            self.assertEqual(rows, kept)
            text = table.text()
            for call, passed in calls(table):
                kept = copy.deepcopy(passed)
                call(*passed)
                self.assertEqual(passed, kept)
            lived(table, 6)
            played(table, 6)
            self.assertEqual(table.text(), text)

    def test_places_and_pairs(self):
        for call, passed in web_calls():
            kept, others, passed = copy.deepcopy(passed), copy.deepcopy(passed), copy.deepcopy(passed)
            told = call(*passed)
            self.assertEqual(passed, kept)
            shown = repr(told)
            spoil(told)
            spoil(passed)
            self.assertEqual(repr(call(*others)), shown)

    def test_known_tables(self):
        for call, passed in ((moments, [9, 4]), (units, [3, 2]), (full_web, [5]), (seven, [])):
            self.assertEqual(call(*passed).text(), call(*passed).text())

    def test_what_is_passed_may_be_changed_later(self):
        for rows, field in small_tables(43, 28):
            rows = copy.deepcopy(rows)
            table = Rows(rows, field)
            same = Rows(copy.deepcopy(rows), field)
            text = table.text()
            for row in rows:
                row[:] = [number + 1 for number in row] + [7]
            rows.append([1])
            self.assertEqual(table.text(), text)
            self.assertEqual(table, same)
            self.assertEqual(repr(lived(table, 7)), repr(lived(same, 7)))
            self.assertEqual(repr(played(table, 7)), repr(played(same, 7)))

    def test_what_is_returned_may_be_changed(self):
        for rows, field in small_tables(44, 28):
            table = Rows(rows, field)
            for call, passed in calls(table):
                told = call(*passed)
                kept = copy.deepcopy(told)
                spoil(told)
                self.assertEqual(call(*passed), kept)

    def test_what_a_keeper_returns_may_be_changed(self):
        table = Rows([[1, 0], [2, 0], [0, 1], [3, 0]])
        keeper = Keeper(table, 2)
        for row in (0, 1, 2):
            spoil(keeper.come(row))
        lots = keeper.lots()
        spoil(keeper.lots())
        self.assertEqual(keeper.lots(), lots)
        told = []
        for _ in range(2):
            with self.assertRaises(TooMany) as caught:
                keeper.come(3)
            told.append(list(caught.exception.lot))
            spoil(caught.exception.lot)
            with self.assertRaises(TooMany) as caught:
                keeper.less(0)
            told.append(list(caught.exception.lot))
            spoil(caught.exception.lot)
            self.assertEqual(keeper.lots(), lots)
        self.assertEqual(told[:2], told[2:])
        keeper.more()
        spoil(keeper.less(0))
        after = keeper.lots()
        keeper.undo()
        spoil(keeper.lots())
        keeper.again()
        self.assertEqual(keeper.lots(), after)
        keeper.undo()
        keeper.undo()
        self.assertEqual(keeper.lots(), lots)

    def test_what_a_game_returns_may_be_changed(self):
        game = Game(Rows([[1, 0], [0, 1], [1, 1], [1, 2], [1, 3]]), 4, "keep")
        for row in (1, 3, 2):
            kept = state(game)
            spoil(state(game))
            self.assertEqual(state(game), kept)
            game.take(row)
        self.assertEqual(game.kept_rows(), [1, 2])
        game.undo()
        game.undo()
        self.assertEqual([len(lot) for lot in game.hold()], [1, 1])

    def test_objects_that_are_refused_are_not_changed(self):
        for thing in ([2], (2, [3]), {2: 3}):
            kept = copy.deepcopy(thing)
            with self.assertRaises(BadPrime) as caught:
                spoilt(Rows([[1]]), thing)
            self.assertEqual([caught.exception.prime, thing], [kept, kept])
            with self.assertRaises(BadHand) as caught:
                Game(Rows([[1]]), 0, thing)
            self.assertEqual([caught.exception.hand, thing], [kept, kept])

    def test_lists_in_one_answer_do_not_hang_together(self):
        told = parted(Rows([[1]]), 3)[1]
        told[1].append(9)
        self.assertEqual(sum(len(lot) for lot in told), 2)
        told = Keeper(Rows([[1]]), 3).lots()
        told[0].append(9)
        self.assertEqual(told, [[9], [], []])
        table = Rows([[0]])
        for told in (apart(table, 3)[1], dearest(table, 3, [1])[1], cheapest(table, 3, [1])[2]):
            told[0].append(9)
            self.assertEqual(told, [[9], [], []])
        for paper in layer_papers(Rows([[1, 0], [0, 1]])):
            paper[0].append(9)
            self.assertEqual(paper, [[0, 1, 9], [0, 1]])

    def test_a_base_that_is_refused_is_not_changed(self):
        for lot in ([1, 0], [0], (2, 3)):
            kept = copy.deepcopy(lot)
            for call in (exchanges, partners):
                with self.assertRaises(NotBase) as caught:
                    call(Rows([[1, 0], [0, 1], [1, 1], [2, 2]]), [0, 1], lot)
                self.assertEqual(caught.exception.lot, kept)
                self.assertEqual(lot, kept)

    def test_two_keepers_of_one_table(self):
        table = Rows([[1], [2]])
        one, other = Keeper(table, 2), Keeper(table, 2)
        one.come(0)
        self.assertEqual(other.lots(), [[], []])
        other.come(1)
        one.undo()
        self.assertEqual(one.lots(), [[], []])
        self.assertEqual(sorted(row for lot in other.lots() for row in lot), [1])


if __name__ == "__main__":
    unittest.main()
