"""A game about a row: one hand keeps rows that are to make it, the other one cuts them away."""

from freelots.checks import is_integer, is_lot
from freelots.errors import BadHand, NoDeed, NoRow, Over
from freelots.over import table_over
from freelots.ways import stock_of

HANDS = ("keep", "cut")


def check_goal(table, goal):
    """Raise NoRow if this is no row of a table."""
    if not is_integer(goal, 0, len(table) - 1):
        raise NoRow(goal)


def twins(table, rows):
    """Return two free lots of some rows, apart, that make the same rows, as many as any two such lots make."""
    stock = stock_of(table, 2)
    stock.fill(rows)
    stuck = stock.stuck(rows)
    one, two = [[row for row in lot if row in stuck] for lot in stock.shown()]
    return one, two


def winner_of(table, goal, kept, free, hand):
    """Return the hand that can win if it is the turn of this hand, or that has won."""
    # The keeping hand can win first just if it can win second where a copy of the goal is free, too:
    # the cutting hand has to take this copy at once.
    rows = free if hand == "cut" else sorted(free + [goal])
    over = table_over(table, kept)
    one, _ = twins(over, rows)
    return "keep" if goal in over.hull(one) else "cut"


class Game:
    """A game on a table, one row of which is the goal."""

    def __init__(self, table, goal, first):
        check_goal(table, goal)
        if not isinstance(first, str) or first not in HANDS:
            raise BadHand(first)
        self._table = table
        self._goal = int(goal)
        self._hands = HANDS if first == "keep" else HANDS[::-1]
        # All rows that were taken, in order, those that were taken back behind the others; and how many are taken now.
        self._taken = []
        self._now = 0

    @property
    def table(self):
        """The table."""
        return self._table

    @property
    def goal(self):
        """The index of the goal."""
        return self._goal

    def _taken_by(self, hand):
        """Return the lot of the rows that a hand has taken."""
        return sorted([row for at, row in enumerate(self._taken[:self._now]) if self._hands[at % 2] == hand])

    def kept_rows(self):
        """Return the lot of the rows that are kept."""
        return self._taken_by("keep")

    def cut_rows(self):
        """Return the lot of the rows that are cut away."""
        return self._taken_by("cut")

    def free_rows(self):
        """Return the lot of the rows that are free."""
        taken = self._taken[:self._now]
        return [row for row in range(len(self._table)) if row != self._goal and row not in taken]

    def _is_over(self):
        """Tell whether the game is over."""
        kept = self.kept_rows()
        left = sorted(kept + self.free_rows())
        return self._goal in self._table.hull(kept) or self._goal not in self._table.hull(left)

    def _hand(self):
        """Return the hand whose turn it is, or would be if the game were not over."""
        return self._hands[self._now % 2]

    def turn(self):
        """Return the hand whose turn it is, None if the game is over."""
        return None if self._is_over() else self._hand()

    def winner(self):
        """Return the hand that can win, or has won."""
        return winner_of(self._table, self._goal, self.kept_rows(), self.free_rows(), self._hand())

    def winning(self):
        """Return the lot of the rows with each of which the hand whose turn it is can win."""
        hand = self.turn()
        if hand is None:
            return []
        return [row for row in self.free_rows() if self._winner_behind(hand, row) == hand]

    def _winner_behind(self, hand, row):
        """Return the hand that can win, or has won, if a hand has taken a row."""
        kept = self.kept_rows()
        free = [other for other in self.free_rows() if other != row]
        if hand == "keep":
            return winner_of(self._table, self._goal, sorted(kept + [row]), free, "cut")
        return winner_of(self._table, self._goal, kept, free, "keep")

    def take(self, row):
        """Let the hand whose turn it is take a row; return whether the game is over then."""
        if self._is_over():
            raise Over()
        if not is_integer(row, 0, len(self._table) - 1) or row not in self.free_rows():
            raise NoRow(row)
        del self._taken[self._now:]
        self._taken.append(int(row))
        self._now += 1
        return self._is_over()

    def undo(self):
        """Take the last row back."""
        if self._now == 0:
            raise NoDeed()
        self._now -= 1

    def again(self):
        """Take the row again that was taken back last."""
        if self._now == len(self._taken):
            raise NoDeed()
        self._now += 1

    def hold(self):
        """Return a hold if it is the turn of the cutting hand and the keeping hand can win, else None."""
        if self.turn() != "cut":
            return None
        over = table_over(self._table, self.kept_rows())
        one, two = twins(over, self.free_rows())
        return (one, two) if self._goal in over.hull(one) else None


def is_hold(table, goal, kept, free, one, two):
    """Tell whether two lots are a hold for a goal, kept and free rows."""
    check_goal(table, goal)
    for lot in (one, two):
        if not is_lot(lot, len(table)) or not all([row in free for row in lot]):
            return False
    if any([row in two for row in one]):
        return False
    over = table_over(table, kept)
    if not over.is_free(one) or not over.is_free(two):
        return False
    made_of_one = over.hull(one)
    made_of_two = over.hull(two)
    if goal not in made_of_one or goal not in made_of_two:
        return False
    return all([row in made_of_one for row in two]) and all([row in made_of_two for row in one])
