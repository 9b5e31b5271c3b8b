"""The errors of the package.

A message tells the kind of failure alone: a field may be anything, also what is
too large to be shown, and is read off the error.
"""


class YardError(ValueError):
    """What every error of the package is."""


class InvalidNumber(YardError):
    """An argument is not a number as it is wanted."""

    def __init__(self, thing):
        YardError.__init__(self, "not a number as it is wanted here")
        self.thing = thing


class InvalidRoads(YardError):
    """Roads are not a list (place is None), or the item at a place is no road."""

    def __init__(self, place):
        YardError.__init__(self, "not a list of roads of the yard")
        self.place = place


class InvalidCells(YardError):
    """Cells are not a list (place is None), or the item at a place is no cell."""

    def __init__(self, place):
        YardError.__init__(self, "not a list of cells of the yard")
        self.place = place


class InvalidYard(YardError):
    """An argument is not a yard."""

    def __init__(self, thing):
        YardError.__init__(self, "not a yard")
        self.thing = thing


class InvalidOrder(YardError):
    """An argument is not an order."""

    def __init__(self, thing):
        YardError.__init__(self, "not an order")
        self.thing = thing


class InvalidRanks(YardError):
    """An argument is not the ranks of an order."""

    def __init__(self, thing):
        YardError.__init__(self, "not the ranks of an order")
        self.thing = thing


class InvalidMove(YardError):
    """An argument is not a move of the yard, or not a run of it."""

    def __init__(self, thing):
        YardError.__init__(self, "not a move or a run of the yard")
        self.thing = thing


class NotMade(YardError):
    """The yard does not make an order."""

    def __init__(self, order):
        YardError.__init__(self, "the yard does not make the order")
        self.order = order


class NoOrder(YardError):
    """The yard makes too few orders to have one with a number."""

    def __init__(self, number):
        YardError.__init__(self, "there is no order with the number")
        self.number = number


class NoRoad(YardError):
    """The yard has no road from x to y."""

    def __init__(self, x, y):
        YardError.__init__(self, "the yard has no such road")
        self.x = x
        self.y = y


class NoCell(YardError):
    """The yard has no entry, or no exit, x."""

    def __init__(self, x):
        YardError.__init__(self, "the yard has no such entry or exit")
        self.x = x


class Blocked(YardError):
    """A cell is in the way of a move."""

    def __init__(self, thing):
        YardError.__init__(self, "a cell is in the way of the move")
        self.thing = thing


class NothingDone(YardError):
    """There is no move to take back."""

    def __init__(self):
        YardError.__init__(self, "there is no move to take back")
