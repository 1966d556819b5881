"""The room that each set of places has left for bars of a sound lot, reckoned for all sets at once."""


def having_each(places):
    """Return for each place the family of the sets that have it.

    A set has a number, with the digit of 2 ** place for each of its places,
    and a family has the digit of 2 ** number for each of its sets.
    """
    families = []
    for place in range(places):
        # All sets of the places ahead stand a second time behind themselves, there with this place.
        many = 1 << place
        families = [family | family << many for family in families]
        families.append(((1 << many) - 1) << many)
    return families


def first_digits(places, having):
    """Return for each digit, that of 1 first, the family of the sets whose room without any bars has it.

    The digits of sets of less than two places tell nothing: no bar has both its places in them.
    """
    every = (1 << (1 << places)) - 1
    # All sets begin with 32 - 3 and get 2 for each of their places; what is carried to 32 is left out.
    digits = [every, 0, every, every, every]
    for family in having:
        carried = family
        for at in range(1, 5):
            digit = digits[at]
            digits[at] = digit ^ carried
            carried = carried & digit
    return digits


class Rooms:
    """The room that each set of two or more places has: two times its places, less 3 and less the bars taken."""

    def __init__(self, places):
        self._having = having_each(places)
        self._digits = first_digits(places, self._having)
        self._roomy = self._any_digit()

    def _any_digit(self):
        """Return the family of the sets that have room."""
        one, two, four, eight, sixteen = self._digits
        return one | two | four | eight | sixteen

    def _lessen(self, family):
        """Take one from the room of each set of a family; all of them have room."""
        for at in range(5):
            digit = self._digits[at] ^ family
            self._digits[at] = digit
            # Where the digit was 0 and is 1 now, the next one has to lend.
            family = family & digit
            if family == 0:
                break
        self._roomy = self._any_digit()

    def _around(self, bar):
        """Return the family of the sets that have both places of a bar."""
        return self._having[bar[0]] & self._having[bar[1]]

    def _full(self, bar):
        """Return the family of the sets without room that have both places of a bar."""
        around = self._around(bar)
        return around ^ (around & self._roomy)

    def take(self, bar):
        """Take a bar if each set that has both its places has room for it; tell whether it was taken."""
        if self._full(bar) != 0:
            return False
        self._lessen(self._around(bar))
        return True

    def press(self, bar):
        """Take a bar into the sets that have room for it; return the family of those that have none."""
        full = self._full(bar)
        self._lessen(self._around(bar) ^ full)
        return full

    def greatest(self, bar):
        """Return the places that stand in some set without room that has both places of a bar."""
        full = self._full(bar)
        return [place for place, family in enumerate(self._having) if full & family != 0]

    def least(self, bar):
        """Return the places that stand in all sets without room that have both places of a bar."""
        full = self._full(bar)
        return [place for place, family in enumerate(self._having) if full & family == full]
