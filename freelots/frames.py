"""Frames in the plane: bars that hold their places, and those of which there are too many."""

from itertools import combinations

from freelots.checks import check_web
from freelots.masks import all_sums, rows_of


def check_frame(places, bars):
    """Raise BadWeb if these are no places and bars of a frame."""
    check_web(places, 0, bars, False)


def rooms_of(places):
    """Return for each set of two or more places, at its number, how many bars of a sound lot it can have."""
    return {mask: 2 * size - 3 for mask, size in enumerate(all_sums([1] * places)) if size > 1}


def ends_of(bar):
    """Return the number of the set of both places of a bar."""
    return (1 << bar[0]) + (1 << bar[1])


def taken(places, bars):
    """Return the bars that are taken in order, each if it is sound with those ahead, and the room left in each set."""
    rooms = rooms_of(places)
    lot = []
    for index, bar in enumerate(bars):
        ends = ends_of(bar)
        around = [mask for mask in rooms if mask & ends == ends]
        if all([rooms[mask] > 0 for mask in around]):
            lot.append(index)
            for mask in around:
                rooms[mask] -= 1
    return lot, rooms


def full_sets(rooms):
    """Return the numbers of the sets without room, all of whose places hold each other."""
    return [mask for mask, room in rooms.items() if room == 0]


def strength(places, bars):
    """Return the number of bars of a greatest sound lot."""
    return len(sound_bars(places, bars))


def is_stiff(places, bars):
    """Tell whether a frame is stiff."""
    check_frame(places, bars)
    return places < 2 or strength(places, bars) == 2 * places - 3


def sound_bars(places, bars):
    """Return the greatest sound lot that comes if the bars are taken in order."""
    check_frame(places, bars)
    lot, _ = taken(places, bars)
    return lot


def spare_bars(places, bars):
    """Return the lot of the bars without each of which the frame has the same strength."""
    check_frame(places, bars)
    lot, rooms = taken(places, bars)
    full = full_sets(rooms)
    # The least full set around a bar that was not taken has the taken ones for which it could stand.
    parts = [least_around(full, ends_of(bar)) for index, bar in enumerate(bars) if index not in lot]
    return [index for index, bar in enumerate(bars) if any([ends_of(bar) & part == ends_of(bar) for part in parts])]


def least_around(full, ends):
    """Return the number of the set of the places that are in all full sets around both ends of a bar."""
    around = [mask for mask in full if mask & ends == ends]
    least = around[0]
    for mask in around:
        least = least & mask
    return least


def overfull(places, bars):
    """Return the places of a set that has too many bars, None if there is none."""
    check_frame(places, bars)
    numbers = [ends_of(bar) for bar in bars]
    for mask, room in rooms_of(places).items():
        if len([ends for ends in numbers if mask & ends == ends]) > room:
            return rows_of(mask, places)
    return None


def stiff_parts(places, bars):
    """Return the stiff parts, in order."""
    check_frame(places, bars)
    _, rooms = taken(places, bars)
    sizes = all_sums([1] * places)
    parts = []
    for _, mask in sorted([(-sizes[mask], mask) for mask in full_sets(rooms)]):
        if not any([mask & part == mask for part in parts]):
            parts.append(mask)
    return sorted([rows_of(mask, places) for mask in parts])


def more_bars(places, bars):
    """Return the first of the shortest lists of bars with which the frame is stiff."""
    check_frame(places, bars)
    pairs = list(combinations(range(places), 2))
    lot, _ = taken(places, list(bars) + pairs)
    return [pairs[index - len(bars)] for index in lot if index >= len(bars)]
