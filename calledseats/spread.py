"""How the numbers of calls spread from the targets over a table.

The number of a seat is its least number of calls. Moves a and b belong to one
call from a seat x if and only if a + b is x + x. So the next number goes to each
seat whose double is the sum of two seats with numbers.

Sets of seats are integers here, with one bit for each code of a seat. A code has
one digit for each ring. A digit is a place or, modulo the size, another integer
of the same meaning; it has room for twice the size, so small sums of places need
no carry. In a set that is WIDE each seat has all codes with digits below twice
the sizes. Shifting a wide set by the mirror of a seat a, which has size - place
as its digits, adds a to all its seats: codes with digits below the sizes come out
right. Where a digit would fall below 0, it borrows and is at least the size, and
such codes are not read.
"""

from calledseats.tables import all_seats


class Grid:
    """The codes of all seats of a table, which are known here by their indexes in ascending order."""

    def __init__(self, sizes):
        codes = doubles = mirrors = [0]
        strides = []
        room = 1
        for size in sizes:
            codes = _longer(codes, size, list(range(size)))
            doubles = _longer(doubles, size, [2 * place % size for place in range(size)])
            mirrors = _longer(mirrors, size, [size - place for place in range(size)])
            strides = [2 * size * stride for stride in strides]
            strides.append(1)
            room = room * 2 * size
        self.rings = list(zip(strides, sizes))
        self.codes = codes
        self.doubles = doubles
        self.mirrors = mirrors
        # As a text of bits a set begins with this one, so that all texts have the same length.
        self.first_bit = 1 << room
        self.spots = [room - double for double in doubles]

    def index_of(self, seat):
        """Return the index of the seat."""
        at = 0
        for place, (_, size) in zip(seat, self.rings):
            at = at * size + place
        return at

    def widened(self, seats):
        """Return the wide set of the seats of a set with digits below the sizes."""
        for stride, size in self.rings:
            seats = seats | seats << size * stride
        return seats


class Spread:
    """The numbers of all seats for some targets, found as far as they are asked for."""

    def __init__(self, grid, targets):
        self._grid = grid
        self._numbers = [None] * len(grid.codes)
        self._waiting = list(range(len(grid.codes)))
        self._rows = []
        # For each number: the wide set of the seats up to it, and the set of their mirrors.
        self._sets = []
        self._known = 0
        self._mirrored = 0
        self._sums = 0
        self._enter(sorted(targets))

    def all_rows(self):
        """Return a list for each number with the indexes of its seats, ascending."""
        while self._grow():
            pass
        return [list(row) for row in self._rows]

    def number_of(self, at):
        """Return the number of the seat with this index, None if it has none."""
        while self._numbers[at] is None:
            # A look at this seat alone saves the last and largest step.
            if self._meeting(len(self._rows) - 1, at) != 0:
                return len(self._rows)
            if not self._grow():
                return None
        return self._numbers[at]

    def call_from(self, at):
        """Return a best call from the seat with this index, None for a target or without a number."""
        number = self.number_of(at)
        if number is None or number == 0:
            return None
        meeting = self._meeting(number - 1, at)
        goal = (meeting & -meeting).bit_length() - 1
        code = self._grid.codes[at]
        # Digits ahead of the one that is asked for add multiples of its size only.
        return tuple([(goal // stride - code // stride) % size for stride, size in self._grid.rings])

    def _meeting(self, number, at):
        """Return the set of the moves from the seat that have numbers up to this one on both sides."""
        wide, mirrored = self._sets[number]
        return mirrored << self._grid.doubles[at] & wide

    def _grow(self):
        """Enter the seats with the next number, and tell whether there are any."""
        row = self._next_row()
        if not row:
            # The seats that still wait have no number: nothing is left to look for.
            self._waiting = []
            return False
        self._enter(row)
        return True

    def _next_row(self):
        # If more than half of all seats have numbers, the moves of each seat meet in them.
        if 2 * len(self._waiting) < len(self._numbers):
            return self._waiting
        wide, _ = self._sets[-1]
        sums = self._sums
        for at in self._rows[-1]:
            sums |= wide >> self._grid.mirrors[at]
        self._sums = sums
        bits = f"{sums | self._grid.first_bit:b}"
        spots = self._grid.spots
        return [at for at in self._waiting if bits[spots[at]] == "1"]

    def _enter(self, row):
        number = len(self._rows)
        for at in row:
            self._numbers[at] = number
        self._rows.append(row)
        self._waiting = [at for at in self._waiting if self._numbers[at] is None]
        if self._waiting:
            for at in row:
                self._known |= 1 << self._grid.codes[at]
                self._mirrored |= 1 << self._grid.mirrors[at]
            self._sets.append((self._grid.widened(self._known), self._mirrored))


def spread_from(grid, targets):
    """Return the spread from these seats."""
    return Spread(grid, [grid.index_of(target) for target in targets])


def numbered_seats(sizes, targets):
    """Return the numbers of all seats that have one."""
    rows = spread_from(Grid(sizes), targets).all_rows()
    seats = all_seats(sizes)
    found = {}
    for number, row in enumerate(rows):
        for at in row:
            found[seats[at]] = number
    return found


def _longer(codes, size, digits):
    """Return the codes that go on with each of the digits for one more ring."""
    bases = [2 * size * code for code in codes]
    return [base + digit for base in bases for digit in digits]
