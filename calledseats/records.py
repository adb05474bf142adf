"""Recorded games: what each player lost, and which witnesses explain the directions."""

from calledseats.checks import require_moves, require_seat, require_targets
from calledseats.spread import numbered_seats
from calledseats.tables import both_moves, require_small, sizes_of, stepped
from calledseats.witnesses import canonical_weights, weighted_sum


class Record:
    """The record of a game, which never changes."""

    def __init__(self, table, targets, seat, moves):
        sizes = sizes_of(table)
        require_targets(sizes, targets)
        require_seat(sizes, seat)
        require_moves(sizes, moves)
        self._table = table
        self._targets = list(targets)
        self._moves = list(moves)
        self._seats = _seats_of_game(sizes, seat, moves)
        self._calls = _calls_before(self._seats, targets)

    def seats(self):
        """Return the starting seat and the seat after each move."""
        return list(self._seats)

    def calls_to_target(self):
        """Return the number of moves before the first target, None if there is none."""
        return self._calls

    def losses(self):
        """Return (caller_loss, responder_loss) for each move before the first target."""
        require_small(self._table)
        sizes = self._table.sizes()
        numbers = numbered_seats(sizes, self._targets)
        counted = self._moves
        if self._calls is not None:
            counted = self._moves[:self._calls]
        found = []
        for index, (call, _) in enumerate(counted):
            current = self._seats[index]
            forward, backward = both_moves(sizes, current, call)
            worst = _larger(numbers.get(forward), numbers.get(backward))
            before = numbers.get(current)
            after = numbers.get(self._seats[index + 1])
            found.append((_caller_loss(before, worst), _responder_loss(worst, after)))
        return found

    def first_mistake(self):
        """Return (index, player) for the first loss, None if nobody lost anything."""
        for index, (caller_loss, responder_loss) in enumerate(self.losses()):
            if caller_loss != 0:
                return (index, "caller")
            if responder_loss != 0:
                return (index, "responder")
        return None


def consistent_witnesses(table, seat, moves):
    """Return all canonical witnesses that explain the directions, ascending."""
    sizes = sizes_of(table)
    require_seat(sizes, seat)
    require_moves(sizes, moves)
    require_small(table)
    tests = _forward_tests(sizes, seat, moves)
    found = []
    for modulus, weights in canonical_weights(sizes):
        start = weighted_sum(weights, seat) % modulus
        answers = [(weighted_sum(weights, forward) % modulus, avoided) for forward, avoided in tests]
        for residue in range(modulus):
            if residue != start and _explains(residue, answers):
                found.append((modulus, weights, residue))
    return found


def _forward_tests(sizes, seat, moves):
    """Return, for each move, the seat a step forward and whether the responder avoided it."""
    tests = []
    for current, (call, direction) in zip(_seats_of_game(sizes, seat, moves), moves):
        forward, _ = both_moves(sizes, current, call)
        tests.append((forward, direction == "backward"))
    return tests


def _explains(residue, answers):
    # A start off the residue and these answers keep every later seat off it, too.
    return all([(reached == residue) == avoided for reached, avoided in answers])


def _seats_of_game(sizes, seat, moves):
    current = seat
    seats = [current]
    for call, direction in moves:
        current = stepped(sizes, current, call, direction)
        seats.append(current)
    return seats


def _calls_before(seats, targets):
    """Return the index of the first seat that is a target, None if there is none."""
    goals = set(targets)
    for index, seat in enumerate(seats):
        if seat in goals:
            return index
    return None


def _larger(number, other):
    # None stands for infinity, here and in the two losses.
    if number is None or other is None:
        return None
    return max(number, other)


def _caller_loss(before, worst):
    if before is None:
        return 0
    if worst is None:
        return None
    return worst - (before - 1)


def _responder_loss(worst, after):
    if after is None:
        # The walker can only get to an infinite number if the worst move has it.
        return 0
    if worst is None:
        return None
    return worst - after
