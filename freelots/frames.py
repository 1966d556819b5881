"""Frames in the plane: bars that hold their places, and those of which there are too many."""

from itertools import combinations

from freelots.checks import check_web
from freelots.masks import rows_of
from freelots.rooms import Rooms


def check_frame(places, bars):
    """Raise BadWeb if these are no places and bars of a frame."""
    check_web(places, 0, bars, False)


def taken(rooms, bars):
    """Take bars into rooms in order, each if it is sound with those ahead; return the lot of those that were taken."""
    lot = []
    for index, bar in enumerate(bars):
        if rooms.take(bar):
            lot.append(index)
    return lot


def is_within(bar, some):
    """Tell whether both places of a bar are among some places."""
    return bar[0] in some and bar[1] in some


def is_in_one(bar, parts):
    """Tell whether both places of a bar are in one of some parts."""
    return any([is_within(bar, part) for part in parts])


def strength(places, bars):
    """Return the number of bars of a greatest sound lot."""
    return len(sound_bars(places, bars))


def is_stiff(places, bars):
    """Tell whether a frame is stiff."""
    many = strength(places, bars)
    return places < 2 or many == 2 * places - 3


def sound_bars(places, bars):
    """Return the greatest sound lot that comes if the bars are taken in order."""
    check_frame(places, bars)
    return taken(Rooms(places), bars)


def spare_bars(places, bars):
    """Return the lot of the bars without each of which the frame has the same strength."""
    check_frame(places, bars)
    rooms = Rooms(places)
    lot = taken(rooms, bars)
    # The least full set around a bar that was not taken has the taken ones for which it could stand. Where a part
    # has the bar already, it has this set, too.
    parts = []
    for index, bar in enumerate(bars):
        if index not in lot and not is_in_one(bar, parts):
            parts.append(rooms.least(bar))
    return [index for index, bar in enumerate(bars) if is_in_one(bar, parts)]


def overfull(places, bars):
    """Return the places of a set that has too many bars, None if there is none."""
    check_frame(places, bars)
    rooms = Rooms(places)
    over = 0
    for bar in bars:
        over = over | rooms.press(bar)
    if over == 0:
        return None
    # The least digit of a family tells the number of its first set.
    return rows_of((over & -over).bit_length() - 1, places)


def stiff_parts(places, bars):
    """Return the stiff parts, in order."""
    check_frame(places, bars)
    rooms = Rooms(places)
    left = [bars[index] for index in taken(rooms, bars)]
    # Each bar is in just one stiff part, and each part has some of the bars that were taken.
    parts = []
    while left:
        part = rooms.greatest(left[0])
        parts.append(part)
        left = [bar for bar in left if not is_within(bar, part)]
    return sorted(parts)


def more_bars(places, bars):
    """Return the first of the shortest lists of bars with which the frame is stiff."""
    check_frame(places, bars)
    rooms = Rooms(places)
    taken(rooms, bars)
    pairs = list(combinations(range(places), 2))
    return [pairs[index] for index in taken(rooms, pairs)]
