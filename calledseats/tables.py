"""Tables with rings of seats, and the steps of the walker on them."""

from math import gcd, lcm

from calledseats.checks import is_integer, require_call, require_direction, require_seat
from calledseats.errors import InvalidTable, TooLarge

MAX_RINGS = 4
SMALL_COUNT = 300


class Table:
    """A table with 1 to 4 rings of seats, which never changes."""

    def __init__(self, rings):
        if not _are_sizes(rings):
            raise InvalidTable(rings)
        self._sizes = tuple(rings)

    def sizes(self):
        """Return the ring sizes as a tuple."""
        return self._sizes

    def count(self):
        """Return the number of seats."""
        seats = 1
        for size in self._sizes:
            seats = seats * size
        return seats

    def moves(self, seat, call):
        """Return the seats after a step forward and after a step backward."""
        require_seat(self._sizes, seat)
        require_call(self._sizes, call)
        return both_moves(self._sizes, seat, call)

    def step(self, seat, call, direction):
        """Return the seat after one step."""
        require_seat(self._sizes, seat)
        require_call(self._sizes, call)
        require_direction(direction)
        return stepped(self._sizes, seat, call, direction)

    def order(self, seat):
        """Return the least number of copies of the seat whose sum is the zero seat."""
        require_seat(self._sizes, seat)
        copies = 1
        for place, size in zip(seat, self._sizes):
            copies = lcm(copies, size // gcd(place, size))
        return copies

    def halves(self, seat):
        """Return all seats that give this seat when they are doubled, ascending."""
        require_seat(self._sizes, seat)
        return all_choices([_half_places(place, size) for place, size in zip(seat, self._sizes)])


def sizes_of(table):
    """Return the ring sizes of a table, or raise InvalidTable for another value."""
    if not isinstance(table, Table):
        raise InvalidTable(table)
    return table.sizes()


def both_moves(sizes, seat, call):
    """Return the seats after a step forward and after a step backward, without any checks."""
    forward = []
    backward = []
    for place, part, size in zip(seat, call, sizes):
        forward.append((place + part) % size)
        backward.append((place - part) % size)
    return (tuple(forward), tuple(backward))


def stepped(sizes, seat, call, direction):
    """Return the seat after one step, without any checks."""
    forward, backward = both_moves(sizes, seat, call)
    if direction == "forward":
        return forward
    return backward


def require_small(table):
    """Raise TooLarge for a table that is not small."""
    if table.count() > SMALL_COUNT:
        raise TooLarge(SMALL_COUNT)


def all_seats(sizes):
    """Return all seats of the table with these ring sizes, ascending."""
    return all_choices([list(range(size)) for size in sizes])


def all_choices(options):
    """Return all tuples with one entry of each list, ascending if the lists are."""
    found = [()]
    for parts in options:
        found = [(*chosen, part) for chosen in found for part in parts]
    return found


def _are_sizes(rings):
    if not isinstance(rings, (list, tuple)) or not 1 <= len(rings) <= MAX_RINGS:
        return False
    return all([is_integer(size) and size >= 1 for size in rings])


def _half_places(place, size):
    # Twice a place is below twice the size, so it is the place itself or one round more.
    return [double // 2 for double in (place, place + size) if double % 2 == 0]
