"""Known tables: moments, units, full webs, and the seven rows modulo 2."""

from itertools import combinations

from freelots.rows import Rows
from freelots.webs import web_rows


def powers(number, count):
    """Return so many powers of a number, from 1 on."""
    found = []
    power = 1
    for _ in range(count):
        found.append(power)
        power = power * number
    return found


def moments(count, width):
    """Return the table whose rows are the powers of 0, 1, 2 and so on."""
    return Rows([powers(number, width) for number in range(count)])


def units(width, times):
    """Return the table of all rows with 1 at one place and 0 elsewhere, so many times each."""
    return Rows([[1 if at == place else 0 for at in range(width)] for place in range(width) for _ in range(times)])


def full_web(places):
    """Return the table of the web with a tie for each two different places."""
    return web_rows(places, list(combinations(range(places), 2)))


def seven():
    """Return the table of all rows of three digits modulo 2 but that of zeros."""
    return Rows([[number >> 2 & 1, number >> 1 & 1, number & 1] for number in range(1, 8)], 2)
