"""What changes if numbers are taken modulo a prime."""

from itertools import combinations

from freelots.checks import is_integer
from freelots.errors import BadPrime, NotWhole
from freelots.gauge import Gauge
from freelots.masks import all_ranks, ranks_over

PRIMES_BELOW = 1000


def is_prime(value):
    """Tell whether a value is a prime below 1000."""
    if not is_integer(value, 2, PRIMES_BELOW - 1):
        return False
    return all([value % number != 0 for number in range(2, value)])


def spoilt(table, prime):
    """Return the first lot that is free over the fractions, but not modulo a prime; None if there is none."""
    if table.field != 0:
        raise NotWhole()
    if not is_prime(prime):
        raise BadPrime(prime)
    many = len(table)
    whole = all_ranks(table)
    broken = ranks_over(table, Gauge(table.width, prime), many)
    for size in range(many + 1):
        for lot in combinations(range(many), size):
            mask = sum([1 << row for row in lot])
            if whole[mask] == size and broken[mask] < size:
                return list(lot)
    return None
