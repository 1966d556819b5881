"""Reckonings that go through all lots and all ways, without the package; and tables to reckon with."""

from fractions import Fraction
from itertools import combinations, product
from random import Random

FIELDS = (0, 2, 3, 5, 7, 11, 13)

NOT_INTEGERS = [True, False, None, 1.0, "1", "", [], [1], (1,), {}, {1: 1}, b"1", 1 + 0j, Fraction(1), object(), int]
NOT_LISTS = [None, 0, 1, True, "ab", "", {}, {0: 1}, {0, 1}, 2.5, b"ab", object(), range(2), iter([]), frozenset()]


def all_lots(many):
    """Return all lots of so many rows, those with fewer rows ahead."""
    return [list(lot) for size in range(many + 1) for lot in combinations(range(many), size)]


def rank(rows, field=0):
    """Return the rank of some rows, by elimination with fractions or modulo a prime."""
    if field:
        left = [[number % field for number in row] for row in rows]
    else:
        left = [[Fraction(number) for number in row] for row in rows]
    found = 0
    for column in range(len(left[0]) if left else 0):
        pivots = [row for row in left if row[column] != 0]
        if not pivots:
            continue
        pivot = pivots[0]
        left.remove(pivot)
        found += 1
        turn = pow(int(pivot[column]), -1, field) if field else 1 / pivot[column]
        left = [_cleared(row, pivot, row[column] * turn, field) for row in left]
    return found


def _cleared(row, pivot, factor, field):
    cleared = [one - factor * two for one, two in zip(row, pivot)]
    return [number % field for number in cleared] if field else cleared


class Ranks:
    """The ranks of all lots of a table, each reckoned once."""

    def __init__(self, rows, field=0):
        self.rows = rows
        self.field = field
        self.known = {}

    def rank(self, lot):
        lot = tuple(sorted(lot))
        if lot not in self.known:
            self.known[lot] = rank([self.rows[row] for row in lot], self.field)
        return self.known[lot]

    def is_free(self, lot):
        return self.rank(lot) == len(lot)

    def makes(self, lot, row):
        return self.rank(lot) == rank([self.rows[other] for other in lot] + [self.rows[row]], self.field)


def can_be_parted(ranks, rows, count):
    """Tell whether some rows can be put into so many free lots, trying all ways."""
    return any(all(ranks.is_free(lot) for lot in lots) for lots in all_ways(rows, count))


def all_ways(rows, count):
    """Go through all ways to put rows into so many lots."""
    for places in product(range(count), repeat=len(rows)):
        yield [[row for row, place in zip(rows, places) if place == at] for at in range(count)]


def is_lot(lot, many):
    return lot == sorted(set(lot)) and all(0 <= row < many for row in lot)


def small_tables(seed, count, most_rows=7, most_width=4):
    """Return pairs of rows and a field: random small tables of all kinds, over all fields."""
    random = Random(seed)
    made = [([], 0), ([[]], 0), ([[], [], []], 5), ([[0]], 0), ([[0, 0], [0, 0]], 3), ([[1], [1], [1]], 2)]
    for at in range(count):
        field = FIELDS[at % len(FIELDS)]
        many = random.randint(1, most_rows)
        width = random.randint(1, most_width)
        made.append((one_kind(random, at // len(FIELDS) % 4, many, width), field))
    return made


def one_kind(random, kind, many, width):
    """Return random rows of one of four kinds: of few integers, of products, of 30 figures, or of both."""
    if kind == 0:
        return [[random.randint(-1, 2) for _ in range(width)] for _ in range(many)]
    if kind == 1:
        return made_of_few(random, many, width, max(1, width - 1), 3)
    if kind == 2:
        return [big_row(random, width) for _ in range(many)]
    rows = made_of_few(random, many, width, max(1, width - 2), 10 ** 14)
    return [list(rows[random.randrange(at)]) if at and random.random() < 0.3 else row for at, row in enumerate(rows)]


def big_row(random, width):
    return [random.choice((-1, 1)) * random.randrange(10 ** 29, 10 ** 30) for _ in range(width)]


def made_of_few(random, many, width, base, most):
    """Return random rows that are all made of so few ones as `base`."""
    few = [[random.randint(-most, most) for _ in range(width)] for _ in range(base)]
    rows = []
    for _ in range(many):
        factors = [random.randint(-most, most) for _ in few]
        rows.append([sum(factor * row[at] for factor, row in zip(factors, few)) for at in range(width)])
    return rows
