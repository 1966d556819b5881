"""A game about a row (points 21, 22 and 23)."""

import unittest
from itertools import combinations
from random import Random

from brute import NOT_INTEGERS, NOT_LISTS, Ranks, all_lots, is_lot, small_tables
from freelots.errors import BadHand, NoDeed, NoRow, Over
from freelots.games import Game, is_hold
from freelots.rows import Rows

OTHER = {"keep": "cut", "cut": "keep"}
NOT_ROWS = NOT_INTEGERS + [thing for thing in NOT_LISTS if type(thing) is not int]


class Plays:
    """All ways to go on from each position of a table with a goal, by going through them."""

    def __init__(self, ranks, goal):
        self.ranks = ranks
        self.goal = goal
        self.known = {}

    def ended(self, kept, free):
        """Return the hand that has won, None if the game is not over."""
        if self.ranks.makes(kept, self.goal):
            return "keep"
        return None if self.ranks.makes(sorted(kept + free), self.goal) else "cut"

    def behind(self, kept, free, hand, row):
        """Return the position behind a turn."""
        return sorted(kept + [row] * (hand == "keep")), [other for other in free if other != row], OTHER[hand]

    def winner(self, kept, free, hand):
        key = tuple(kept), tuple(free), hand
        if key not in self.known:
            won = self.ended(kept, free)
            if won is None:
                wins = [row for row in free if self.winner(*self.behind(kept, free, hand, row)) == hand]
                won = hand if wins else OTHER[hand]
            self.known[key] = won
        return self.known[key]

    def winning(self, kept, free, hand):
        if self.ended(kept, free):
            return []
        return [row for row in free if self.winner(*self.behind(kept, free, hand, row)) == hand]


def is_hold_by_words(ranks, goal, kept, free, one, two):
    """Tell whether two lots are a hold, by its definition."""
    many = len(ranks.rows)
    if not all(is_lot(lot, many) and set(lot) <= set(free) for lot in (one, two)) or set(one) & set(two):
        return False
    for lot, other in ((one, two), (two, one)):
        if ranks.rank(kept + lot) != ranks.rank(kept) + len(lot):
            return False
        if not all(ranks.makes(kept + lot, row) for row in [*other, goal]):
            return False
    return True


class PositionsTest(unittest.TestCase):

    def check(self, game, plays, kept, free, hand):
        """Check all that a game tells of a position."""
        table, goal, many = game.table, game.goal, len(plays.ranks.rows)
        ended = plays.ended(kept, free)
        cut = [row for row in range(many) if row != goal and row not in kept + free]
        self.assertEqual([game.kept_rows(), game.cut_rows(), game.free_rows()], [kept, cut, free])
        self.assertEqual(game.turn(), None if ended else hand)
        winner = plays.winner(kept, free, hand)
        self.assertEqual(game.winner(), winner)
        winning = game.winning()
        self.assertIs(type(winning), list)
        self.assertEqual(winning, plays.winning(kept, free, hand))
        self.assertEqual(len(winning) > 0, not ended and winner == hand)
        hold = game.hold()
        if ended or hand == "keep" or winner == "cut":
            self.assertIsNone(hold)
            return
        self.assertIs(type(hold), tuple)
        one, two = hold
        self.assertTrue(type(one) is list and type(two) is list)
        self.assertTrue(is_hold_by_words(plays.ranks, goal, kept, free, one, two))
        self.assertIs(is_hold(table, goal, kept, free, one, two), True)

    def play(self, rows, field, goal, first, random):
        """Play a game to its end, checking each position."""
        plays = Plays(Ranks(rows, field), goal)
        game = Game(Rows(rows, field), goal, first)
        self.assertEqual([game.table, game.goal], [Rows(rows, field), goal])
        kept, free, hand = [], [row for row in range(len(rows)) if row != goal], first
        self.check(game, plays, kept, free, hand)
        turns = 0
        while game.turn() is not None:
            # A hand that takes no winning row now and then lets the other one become the winner.
            some = game.winning() if random.random() < 0.6 else []
            row = random.choice(some or free)
            kept, free, hand = plays.behind(kept, free, hand, row)
            self.assertIs(game.take(row), plays.ended(kept, free) is not None)
            self.check(game, plays, kept, free, hand)
            turns += 1
        self.assertEqual(game.winner(), plays.ended(kept, free))
        return turns

    def test_small_tables(self):
        random = Random(211)
        turns = 0
        for rows, field in small_tables(211, 84, most_rows=6):
            for goal in range(len(rows)):
                for first in ("keep", "cut"):
                    turns += self.play(rows, field, goal, first, random)
        self.assertGreater(turns, 500)

    def test_larger_tables(self):
        random = Random(212)
        for rows, field in small_tables(212, 21, most_rows=8):
            for first in ("keep", "cut"):
                if rows:
                    self.play(rows, field, random.randrange(len(rows)), first, random)

    def test_webs(self):
        random = Random(213)
        for places in (3, 4, 5):
            for _ in range(8):
                ties = [random.sample(range(places), 2) for _ in range(random.randint(3, 8))]
                rows = [[int(at == one) - int(at == two) for at in range(places)] for one, two in ties]
                for first in ("keep", "cut"):
                    self.play(rows, 0, 0, first, random)

    def test_goals_that_are_nought_rows(self):
        for rows, field in (([[0], [1]], 0), ([[]] * 3, 2), ([[2, 4], [1, 0]], 2), ([[0, 0]] * 10, 13)):
            for first in ("keep", "cut"):
                self.over(Game(Rows(rows, field), 0, first), "keep", list(range(1, len(rows))))
        self.over(Game(Rows([[0]]), 0, "cut"), "keep", [])

    def test_goals_that_no_other_rows_make(self):
        for rows, field in (([[1]], 0), ([[1, 0], [0, 1]], 0), ([[1, 1], [1, -1]], 3), ([[1], [0], [0]], 2),
                            ([[1, 2], [2, 1], [2, 1]], 0)):
            for first in ("keep", "cut"):
                self.over(Game(Rows(rows, field), 0, first), "cut", list(range(1, len(rows))))

    def over(self, game, winner, free):
        """Check a game that is over ahead of the first turn."""
        self.assertEqual([game.turn(), game.winner(), game.winning(), game.hold()], [None, winner, [], None])
        self.assertEqual([game.kept_rows(), game.cut_rows(), game.free_rows()], [[], [], free])
        for row in [*free, game.goal, -1, 99, None, True]:
            with self.assertRaises(Over):
                game.take(row)
        for call in (game.undo, game.again):
            with self.assertRaises(NoDeed):
                call()

    def test_plain_games(self):
        three = Rows([[1, 0], [0, 1], [1, 1]])
        game = Game(three, 2, "keep")
        self.assertEqual([game.turn(), game.winner(), game.winning()], ["keep", "cut", []])
        four = Rows([[1, 0], [0, 1], [1, 1], [1, 2]])
        game = Game(four, 3, "keep")
        self.assertEqual([game.turn(), game.winner(), game.winning()], ["keep", "keep", [0, 1, 2]])
        self.assertIs(game.take(1), False)
        self.assertEqual([game.turn(), game.winner(), game.winning(), game.hold()], ["cut", "keep", [], ([0], [2])])
        self.assertIs(game.take(0), False)
        self.assertEqual([game.turn(), game.winning()], ["keep", [2]])
        self.assertIs(game.take(2), True)
        self.assertEqual([game.turn(), game.winner(), game.winning()], [None, "keep", []])
        self.assertEqual([game.kept_rows(), game.cut_rows(), game.free_rows()], [[1, 2], [0], []])
        game = Game(four, 3, "cut")
        self.assertEqual([game.turn(), game.winner(), game.winning(), game.hold()], ["cut", "cut", [0, 1, 2], None])
        self.assertIs(game.take(0), False)
        self.assertIs(game.take(2), False)
        self.assertIs(game.take(1), True)
        self.assertEqual([game.winner(), game.kept_rows(), game.cut_rows()], ["cut", [2], [0, 1]])


class DeedsTest(unittest.TestCase):

    def state(self, game):
        return (game.kept_rows(), game.cut_rows(), game.free_rows(), game.turn(), game.winner(), game.winning(),
                game.hold())

    def test_to_the_first_row_and_back(self):
        random = Random(221)
        for rows, field in small_tables(221, 56):
            for goal in range(len(rows)):
                game = Game(Rows(rows, field), goal, random.choice(("keep", "cut")))
                states = [self.state(game)]
                while game.turn() is not None:
                    game.take(random.choice(game.free_rows()))
                    states.append(self.state(game))
                for _ in range(2):
                    with self.assertRaises(NoDeed):
                        game.again()
                    for state in states[-2::-1]:
                        self.assertIsNone(game.undo())
                        self.assertEqual(self.state(game), state)
                    with self.assertRaises(NoDeed):
                        game.undo()
                    self.assertEqual(self.state(game), states[0])
                    for state in states[1:]:
                        self.assertIsNone(game.again())
                        self.assertEqual(self.state(game), state)

    def test_random_deeds(self):
        random = Random(222)
        for rows, field in small_tables(222, 84, most_rows=8):
            if not rows:
                continue
            first = random.choice(("keep", "cut"))
            goal = random.randrange(len(rows))
            game = Game(Rows(rows, field), goal, first)
            taken, back = [], []
            for _ in range(30):
                deed = random.randrange(4)
                if deed == 0:
                    self.back_or_again(game.undo, taken, back)
                elif deed == 1:
                    self.back_or_again(game.again, back, taken)
                else:
                    self.take(game, random.randrange(len(rows)), taken, back)
                keeps = taken[::2] if first == "keep" else taken[1::2]
                self.assertEqual(game.kept_rows(), sorted(keeps))
                self.assertEqual(game.cut_rows(), sorted(row for row in taken if row not in keeps))
                self.assertEqual(game.free_rows(), [row for row in range(len(rows)) if row not in [*taken, goal]])

    def back_or_again(self, call, source, target):
        if not source:
            with self.assertRaises(NoDeed):
                call()
        else:
            call()
            target.append(source.pop())

    def take(self, game, row, taken, back):
        if game.turn() is None:
            with self.assertRaises(Over):
                game.take(row)
        elif row in taken or row == game.goal:
            with self.assertRaises(NoRow):
                game.take(row)
        else:
            game.take(row)
            taken.append(row)
            back.clear()

    def game(self):
        game = Game(Rows([[1, 0], [0, 1], [1, 1], [1, 2], [1, 3]]), 4, "keep")
        game.take(1)
        game.take(3)
        return game

    def test_a_row_taken_anew(self):
        game = self.game()
        game.undo()
        # The same row anew is a deed of its own.
        game.take(3)
        with self.assertRaises(NoDeed):
            game.again()
        game.undo()
        game.undo()
        game.take(0)
        with self.assertRaises(NoDeed):
            game.again()
        self.assertEqual([game.kept_rows(), game.cut_rows(), game.free_rows()], [[0], [], [1, 2, 3]])
        game.undo()
        game.again()
        self.assertEqual([game.kept_rows(), game.cut_rows(), game.free_rows()], [[0], [], [1, 2, 3]])

    def test_what_is_refused_changes_nothing(self):
        for row in [1, 3, 4, -1, 5, 10 ** 31, *NOT_INTEGERS]:
            game = self.game()
            game.undo()
            state = self.state(game)
            for bad in (row,) if row != 3 else (1, 4):
                with self.assertRaises(NoRow):
                    game.take(bad)
                self.assertEqual(self.state(game), state)
            game.again()
            self.assertEqual(game.cut_rows(), [3])

    def test_no_row(self):
        for row in [1, 3, 4, -1, -2, 5, 10 ** 31, *NOT_ROWS]:
            game = self.game()
            with self.assertRaises(NoRow) as caught:
                game.take(row)
            self.assertIs(caught.exception.row, row)

    def test_over_ahead_of_no_row(self):
        game = self.game()
        self.assertIs(game.take(2), True)
        for row in [0, 1, 2, 4, -1, 9, *NOT_INTEGERS]:
            with self.assertRaises(Over):
                game.take(row)
        self.assertEqual([game.kept_rows(), game.cut_rows(), game.free_rows()], [[1, 2], [3], [0]])
        game.undo()
        self.assertEqual([game.kept_rows(), game.turn()], [[1], "keep"])
        game.again()
        self.assertEqual([game.kept_rows(), game.turn()], [[1, 2], None])

    def test_two_games_on_one_table(self):
        table = Rows([[1, 0], [0, 1], [1, 1]])
        one, other = Game(table, 2, "keep"), Game(table, 2, "keep")
        one.take(0)
        self.assertEqual(other.kept_rows(), [])
        self.assertFalse(one == other)
        self.assertTrue(one != other)
        self.assertTrue(one == one)
        self.assertFalse(one == table)


class RefusedTest(unittest.TestCase):

    def test_goals(self):
        for table in (Rows([[1], [2]]), Rows([])):
            for goal in [-1, 2, 10 ** 31, *NOT_ROWS]:
                for first in ("keep", "cut", "Keep", None, 0):
                    with self.assertRaises(NoRow) as caught:
                        Game(table, goal, first)
                    self.assertIs(caught.exception.row, goal)
                with self.assertRaises(NoRow) as caught:
                    is_hold(table, goal, [], [1], [], [])
                self.assertIs(caught.exception.row, goal)

    def test_hands(self):
        for first in ["Keep", "CUT", "keep ", "", "kee", "keepcut", b"keep", ["keep"], ("keep", "cut"), 0, 1, 2,
                      *NOT_INTEGERS, *NOT_LISTS]:
            with self.assertRaises(BadHand) as caught:
                Game(Rows([[1], [2]]), 1, first)
            self.assertIs(caught.exception.hand, first)


class HoldTest(unittest.TestCase):

    def check(self, ranks, goal, kept, free, one, two):
        told = is_hold(Rows(ranks.rows, ranks.field), goal, kept, free, one, two)
        self.assertIs(told, is_hold_by_words(ranks, goal, kept, free, one, two), (ranks.rows, goal, kept, one, two))
        return told

    def test_all_pairs_of_lots(self):
        random = Random(231)
        told = 0
        for rows, field in small_tables(231, 56, most_rows=5):
            ranks, many = Ranks(rows, field), len(rows)
            for goal in range(many):
                places = [random.choice(("kept", "free", "free", "none")) for _ in rows]
                kept = [row for row in range(many) if row != goal and places[row] == "kept"]
                free = [row for row in range(many) if row != goal and places[row] == "free"]
                for one in all_lots(many):
                    for two in all_lots(many):
                        told += self.check(ranks, goal, kept, free, one, two)
        self.assertGreater(told, 100)

    def test_kept_rows_that_are_not_free(self):
        ranks = Ranks([[1, 0, 0], [2, 0, 0], [0, 0, 0], [0, 1, 0], [3, 2, 0], [5, 5, 0], [0, 0, 1]])
        self.assertTrue(self.check(ranks, 5, [0, 1, 2], [3, 4], [3], [4]))
        self.assertTrue(self.check(ranks, 5, [0, 1], [3, 4, 6], [4], [3]))
        self.assertFalse(self.check(ranks, 6, [0, 1, 2], [3, 4], [3], [4]))
        self.assertFalse(self.check(ranks, 5, [2], [3, 4], [3], [4]))
        self.assertTrue(self.check(ranks, 0, [1, 2], [3, 4], [], []))
        self.assertTrue(self.check(ranks, 2, [], [], [], []))
        self.assertFalse(self.check(ranks, 5, [0, 1, 2], [], [], []))

    def bent(self, many, goal, kept, free, lot):
        """Return a lot with a row more, less, exchanged, and lists that are no lots."""
        bents = [sorted(lot + [goal]), lot + [many], [-1, *lot], lot + lot[-1:], [10 ** 31]]
        bents += [sorted(lot + [row]) for row in range(many)]
        bents += [[row for row in lot if row != left] for left in lot]
        bents += [sorted([other for other in lot if other != left] + [row]) for left in lot for row in range(many)]
        return bents + [lot[::-1]]

    def test_bent_holds(self):
        random = Random(232)
        told = []
        for rows, field in small_tables(232, 140, most_rows=8):
            for goal in range(len(rows)):
                game = Game(Rows(rows, field), goal, random.choice(("keep", "cut")))
                while game.turn() is not None and game.hold() is None:
                    game.take(random.choice(game.winning() or game.free_rows()))
                if game.turn() is None:
                    continue
                one, two = game.hold()
                kept, free = game.kept_rows(), game.free_rows()
                rest = (Ranks(rows, field), goal, kept, free)
                self.assertTrue(self.check(*rest, one, two))
                self.assertTrue(self.check(*rest, two, one))
                self.assertFalse(self.check(*rest, one, one) and one)
                for lot in self.bent(len(rows), *rest[1:], one):
                    told.append(self.check(*rest, lot, two))
                for lot in self.bent(len(rows), *rest[1:], two):
                    told.append(self.check(*rest, one, lot))
                for left in one + two:
                    fewer = [row for row in free if row != left]
                    self.assertFalse(self.check(*rest[:3], fewer, one, two))
        self.assertGreater(told.count(False), 1000)
        self.assertGreater(told.count(True), 0)

    def test_a_row_in_the_other_lot(self):
        ranks = Ranks([[1, 0], [0, 1], [2, 1], [1, 2], [1, 1]])
        self.assertTrue(self.check(ranks, 4, [], [0, 1, 2, 3], [0, 1], [2, 3]))
        for one, two in combinations(all_lots(4), 2):
            self.check(ranks, 4, [], [0, 1, 2, 3], one, two)
        self.assertFalse(self.check(ranks, 4, [], [0, 1, 2, 3], [0, 1], [1, 2]))
        self.assertFalse(self.check(ranks, 4, [], [0, 1, 2, 3], [0, 1, 2], [3]))
        self.assertFalse(self.check(ranks, 4, [], [0, 1, 2], [0, 1], [2, 3]))
        self.assertFalse(self.check(ranks, 4, [3], [0, 1, 2], [0, 1], [2, 3]))
        self.assertFalse(self.check(ranks, 4, [], [0, 1, 2, 3], [0, 4], [2, 3]))


if __name__ == "__main__":
    unittest.main()
