"""The errors of the package.

No message shows the stored value: an integer of thousands of digits has no
text, and an error must be created without failing whatever it stores.
"""


class SeatError(ValueError):
    """The base of all errors of the package."""


class InvalidTable(SeatError):
    """The value is not a table, or not the ring sizes of one."""

    def __init__(self, rings):
        SeatError.__init__(self, "not a table, or not 1 to 4 ring sizes")
        self.rings = rings


class InvalidTargets(SeatError):
    """The entry at this index is not a new seat; -1 stands for the whole."""

    def __init__(self, index):
        SeatError.__init__(self, "not a list or tuple of different seats")
        self.index = index


class InvalidSeat(SeatError):
    """The value is not a seat that is allowed here."""

    def __init__(self, seat):
        SeatError.__init__(self, "not a seat that is allowed here")
        self.seat = seat


class InvalidCall(SeatError):
    """The value is not a call for the table."""

    def __init__(self, call):
        SeatError.__init__(self, "not a tuple of one integer for each ring")
        self.call = call


class InvalidDirection(SeatError):
    """The value is not a direction."""

    def __init__(self, direction):
        SeatError.__init__(self, "neither forward nor backward")
        self.direction = direction


class InvalidWitness(SeatError):
    """The part of the witness at this index is wrong; -1 stands for the whole."""

    def __init__(self, index):
        SeatError.__init__(self, "not a valid witness")
        self.index = index


class InvalidNumber(SeatError):
    """The argument of this name is not a number that is allowed here."""

    def __init__(self, name):
        SeatError.__init__(self, "not a number that is allowed here")
        self.name = name


class InvalidMoves(SeatError):
    """The entry at this index is not a move; -1 stands for the whole."""

    def __init__(self, index):
        SeatError.__init__(self, "not a list or tuple of moves")
        self.index = index


class InvalidStrategy(SeatError):
    """The value is not a strategy that is allowed here."""

    def __init__(self, strategy):
        SeatError.__init__(self, "not a strategy that is allowed here")
        self.strategy = strategy


class Mismatch(SeatError):
    """The argument of this name does not belong to the others."""

    def __init__(self, name):
        SeatError.__init__(self, "does not belong to the other arguments")
        self.name = name


class TooLarge(SeatError):
    """An argument is larger than this limit."""

    def __init__(self, limit):
        SeatError.__init__(self, "larger than the limit")
        self.limit = limit
