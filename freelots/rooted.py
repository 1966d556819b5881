"""Rooted woods: ways that lead from a root to each place, once."""

from freelots.checks import check_count, check_prices, check_web, is_integer, is_lot
from freelots.errors import BadRoot
from freelots.masks import rows_of


def check_rooted(places, ways, root):
    """Raise BadWeb if these are no places and ways of a directed web, then BadRoot if this is no root of it."""
    check_web(places, 1, ways, True)
    if not is_integer(root, 0, places - 1):
        raise BadRoot(root)


def enters(way, mask):
    """Tell whether a way enters the set of places with this number."""
    return mask >> way[1] & 1 == 1 and mask >> way[0] & 1 == 0


def sets_without(places, root):
    """Return the numbers of all sets of one or more places without the root."""
    return [mask for mask in range(1, 1 << places) if mask >> root & 1 == 0]


def entered(places, ways, root):
    """Return for each set of places without the root, at its number, how many ways enter it."""
    return {mask: len([way for way in ways if enters(way, mask)]) for mask in sets_without(places, root)}


class Supply:
    """The ways that are left when woods are taken, and how many of them enter each set of places."""

    def __init__(self, places, ways, root):
        self._places = places
        self._ways = ways
        self._root = root
        self._left = list(range(len(ways)))
        self._entered = entered(places, ways, root)

    def scarce(self, count):
        """Return the numbers of the sets of places that fewer ways than `count` enter."""
        return [mask for mask, number in self._entered.items() if number < count]

    def take_wood(self, rest):
        """Take a rooted wood such that still as many ways as `rest` enter each set, and return it.

        One more than these has to enter each set ahead of it. Then there
        always is a next way that leaves so many (Lovasz).
        """
        reached = {self._root: True}
        wood = []
        while len(reached) < self._places:
            index = self._next_way(reached, rest)
            self._take(index)
            wood.append(index)
            reached[self._ways[index][1]] = True
        return sorted(wood)

    def _next_way(self, reached, rest):
        """Return a way from the places that are reached to another one, without which no set is entered too little."""
        scarce = self.scarce(rest + 1)
        for index in self._left:
            way = self._ways[index]
            if way[0] in reached and way[1] not in reached and not any([enters(way, mask) for mask in scarce]):
                return index
        return None

    def _take(self, index):
        """Take a way away."""
        self._left.remove(index)
        for mask in list(self._entered):
            if enters(self._ways[index], mask):
                self._entered[mask] -= 1


def rooted(places, ways, root, count):
    """Return so many rooted woods without a common way, or places that too few ways enter."""
    check_rooted(places, ways, root)
    check_count(count)
    supply = Supply(places, ways, root)
    scarce = supply.scarce(count)
    if len(scarce) > 0:
        return "places", rows_of(scarce[0], places)
    return "woods", [supply.take_wood(count - 1 - at) for at in range(count)]


def most_rooted(places, ways, root):
    """Return the greatest number of rooted woods without a common way, None if there is one place alone."""
    check_rooted(places, ways, root)
    if places == 1:
        return None
    numbers = entered(places, ways, root)
    return min(list(numbers.values()))


def leading_to(ways, wood, place):
    """Return the number of the set of the places from which some ways lead to a place, itself among them."""
    queue = [place]
    at = 0
    while at < len(queue):
        for index in wood:
            tail, head = ways[index]
            if head == queue[at] and tail not in queue:
                queue.append(tail)
        at += 1
    return sum([1 << one for one in queue])


def unreached(places, ways, root, wood):
    """Return the numbers of the sets of the places that lead to each place to which no way leads from the root."""
    sets = [leading_to(ways, wood, place) for place in range(places)]
    return [mask for mask in sets if mask >> root & 1 == 0]


def is_rooted(places, ways, root, wood):
    """Tell whether a list of integers is a rooted wood."""
    check_rooted(places, ways, root)
    if not is_lot(wood, len(ways)):
        return False
    heads = sorted([ways[index][1] for index in wood])
    others = [place for place in range(places) if place != root]
    return heads == others and len(unreached(places, ways, root, wood)) == 0


def paid_sets(places, ways, root, prices):
    """Return what is paid for sets of places, and ways along which each place is reached then; None if there are none.

    The least set that is not entered yet pays what is left of the price of
    the cheapest way that enters it, and this way is taken (Edmonds, Fulkerson).
    """
    left = list(prices)
    paid = []
    wood = []
    sets = unreached(places, ways, root, wood)
    while len(sets) > 0:
        mask = min([(len(rows_of(mask, places)), mask) for mask in sets])[1]
        entering = [index for index, way in enumerate(ways) if enters(way, mask)]
        if len(entering) == 0:
            return None
        price, first = min([(left[index], index) for index in entering])
        for index in entering:
            left[index] -= price
        paid.append((rows_of(mask, places), price))
        wood.append(first)
        sets = unreached(places, ways, root, wood)
    return paid, wood


def priced(places, ways, root, prices):
    """Return what `paid_sets` returns, for what callers pass."""
    check_rooted(places, ways, root)
    check_prices(prices, len(ways))
    return paid_sets(places, ways, root, prices)


def thinned(places, ways, root, wood):
    """Return the rooted wood that is left if ways go, the last ones ahead, without which all places are reached."""
    kept = list(wood)
    for index in wood[::-1]:
        fewer = [other for other in kept if other != index]
        if len(unreached(places, ways, root, fewer)) == 0:
            kept = fewer
    return sorted(kept)


def cheapest_rooted(places, ways, root, prices):
    """Return the least price of a rooted wood, and such a wood; None if there is none."""
    found = priced(places, ways, root, prices)
    if found is None:
        return None
    wood = thinned(places, ways, root, found[1])
    return sum([prices[index] for index in wood]), wood


def rooted_paper(places, ways, root, prices):
    """Return lists of places with integers that show the least price; None if there is no rooted wood."""
    found = priced(places, ways, root, prices)
    # What greater sets pay is never below 0, since each place has paid for its cheapest way ahead of them.
    return None if found is None else [(some, price) for some, price in found[0] if len(some) == 1 or price > 0]
