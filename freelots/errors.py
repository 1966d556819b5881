"""The errors of the package.

No message shows what an error holds: it may be an integer of many thousand
figures, which Python refuses to write down.
"""


class LotError(ValueError):
    """What was asked for cannot be had: the root of all other errors here."""


class BadField(LotError):
    """No field of a table."""

    def __init__(self, number):
        super().__init__("a field is one of 0, 2, 3, 5, 7, 11 and 13")
        self.number = number


class BadRows(LotError):
    """No rows of a table, the row with this index ahead of all."""

    def __init__(self, row):
        super().__init__("rows are at most 60 lists of at most 12 integers, as many in each")
        self.row = row


class BadLot(LotError):
    """No lot, because of the thing at this place."""

    def __init__(self, place):
        super().__init__("a lot is an ascending list of indexes of rows, each once")
        self.place = place


class BadCount(LotError):
    """No number of lots, or no number of a lot."""

    def __init__(self, count):
        super().__init__("this is not the number of some lots, or of a lot, here")
        self.count = count


class BadTables(LotError):
    """No tables of the same things, because of the one at this place."""

    def __init__(self, place):
        super().__init__("tables are a list of 1 to 12 tables with as many rows each")
        self.place = place


class BadSizes(LotError):
    """No sizes of lots, because of the thing at this place."""

    def __init__(self, place):
        super().__init__("sizes are a list of integers from 0 to 60, one for each table")
        self.place = place


class BadWeb(LotError):
    """No web, frame or directed web, because of the thing at this place."""

    def __init__(self, place):
        super().__init__("these places and pairs of places do not go together")
        self.place = place


class TooMany(LotError):
    """The rows of this lot are too many for the lots that there are."""

    def __init__(self, lot):
        super().__init__("these rows are too many for the lots that there are")
        self.lot = lot


class NoRow(LotError):
    """No row that could be meant here."""

    def __init__(self, row):
        super().__init__("this is not a row that can be meant here")
        self.row = row


class BadText(LotError):
    """No text of a table, because of the line with this number."""

    def __init__(self, line):
        super().__init__("this line cannot stand in the text of a table")
        self.line = line


class NoDeed(LotError):
    """There is nothing to undo, or to do again."""


class NotBase(LotError):
    """This is no base of the table."""

    def __init__(self, lot):
        super().__init__("this is not a base of the table")
        self.lot = lot


class BadPrices(LotError):
    """No prices, because of the thing with this index."""

    def __init__(self, index):
        super().__init__("prices are a list of integers, one for each row or way")
        self.index = index


class NoughtRow(LotError):
    """A row that has nothing but zeros."""

    def __init__(self, index):
        super().__init__("this row has nothing but zeros")
        self.index = index


class BadTimes(LotError):
    """No times of rows, because of the thing with this index."""

    def __init__(self, index):
        super().__init__("times are a list of integers from 0 on, one for each row")
        self.index = index


class UnlikeRows(LotError):
    """The tables do not have as many rows."""


class BadClass(LotError):
    """No classes of rows, because of the one with this number."""

    def __init__(self, number):
        super().__init__("classes are a list of lots of the table")
        self.number = number


class NotWhole(LotError):
    """The table does not have the field 0."""


class BadPrime(LotError):
    """No prime that could be meant here."""

    def __init__(self, prime):
        super().__init__("this is not a prime below 1000")
        self.prime = prime


class BadHand(LotError):
    """No hand that plays."""

    def __init__(self, hand):
        super().__init__("a hand is called keep or cut")
        self.hand = hand


class Over(LotError):
    """The game is over."""


class BadRoot(LotError):
    """No root of a directed web."""

    def __init__(self, root):
        super().__init__("the root is one of the places")
        self.root = root
