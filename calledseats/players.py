"""Players for both sides, and games between them."""

from calledseats.checks import is_call, is_list_of_directions, is_witness, require_call, require_number
from calledseats.checks import require_seat, require_targets, require_witness
from calledseats.errors import InvalidSeat, InvalidStrategy, Mismatch
from calledseats.spread import Grid, numbered_seats, spread_from
from calledseats.tables import both_moves, require_small, sizes_of, stepped
from calledseats.witnesses import direction_off, has_residue


def avoiding_direction(table, witness, seat, call):
    """Return a direction that does not lead to the residue of the witness."""
    sizes = sizes_of(table)
    require_witness(sizes, witness)
    require_seat(sizes, seat)
    if has_residue(witness, seat):
        raise InvalidSeat(seat)
    require_call(sizes, call)
    return direction_off(witness, seat, call)


class Responder:
    """A player who picks directions."""

    def __init__(self, table, targets, strategy):
        sizes = sizes_of(table)
        require_targets(sizes, targets)
        self._witness = None
        self._directions = []
        self._numbers = {}
        if _is_layers(strategy):
            require_small(table)
            self._numbers = numbered_seats(sizes, targets)
        elif is_list_of_directions(strategy):
            self._directions = list(strategy)
        elif _is_common_witness(sizes, targets, strategy):
            self._witness = strategy
        else:
            raise InvalidStrategy(strategy)
        self._sizes = sizes
        self._targets = sorted(targets)
        self._turn = 0

    def answer(self, seat, call):
        """Return the direction for the call, and go on in a list of directions."""
        require_seat(self._sizes, seat)
        if self.has_lost_at(seat):
            raise InvalidSeat(seat)
        require_call(self._sizes, call)
        direction = self.direction_at(self._turn, seat, call)
        self._turn += 1
        return direction

    def direction_at(self, turn, seat, call):
        """Return the direction for the call, after so many calls of answer, without any checks."""
        if self._witness is not None:
            return direction_off(self._witness, seat, call)
        if self._directions:
            return self._directions[turn % len(self._directions)]
        forward, backward = both_moves(self._sizes, seat, call)
        if _is_larger(self._numbers.get(backward), self._numbers.get(forward)):
            return "backward"
        return "forward"

    def has_lost_at(self, seat):
        """Tell whether the seat has the residue that this player's witness avoids."""
        return self._witness is not None and has_residue(self._witness, seat)

    def belongs_to(self, sizes, targets):
        """Tell whether the player was made for these ring sizes and targets."""
        return self._sizes == sizes and self._targets == sorted(targets)


class Caller:
    """A player who names calls."""

    def __init__(self, table, targets, strategy):
        sizes = sizes_of(table)
        require_targets(sizes, targets)
        self._listed = []
        self._grid = None
        self._spread = None
        if _is_layers(strategy):
            require_small(table)
            self._grid = Grid(sizes)
            self._spread = spread_from(self._grid, targets)
        elif _is_list_of_calls(sizes, strategy):
            self._listed = [_reduced_call(sizes, call) for call in strategy]
        else:
            raise InvalidStrategy(strategy)
        self._sizes = sizes
        self._targets = sorted(targets)
        self._turn = 0

    def next_call(self, seat):
        """Return the call from the seat, and go on in a list of calls."""
        require_seat(self._sizes, seat)
        call = self.call_at(self._turn, seat)
        self._turn += 1
        return call

    def call_at(self, turn, seat):
        """Return the call from the seat, after so many calls of next_call, without any checks."""
        if self._listed:
            return self._listed[turn % len(self._listed)]
        call = self._spread.call_from(self._grid.index_of(seat))
        if call is None:
            return (0,) * len(self._sizes)
        return call

    def belongs_to(self, sizes, targets):
        """Tell whether the player was made for these ring sizes and targets."""
        return self._sizes == sizes and self._targets == sorted(targets)


def play(table, targets, seat, caller, responder, limit):
    """Play a game and return its moves, its seats and its outcome."""
    sizes = sizes_of(table)
    require_targets(sizes, targets)
    require_seat(sizes, seat)
    if not isinstance(caller, Caller) or not caller.belongs_to(sizes, targets):
        raise Mismatch("caller")
    if not isinstance(responder, Responder) or not responder.belongs_to(sizes, targets):
        raise Mismatch("responder")
    require_number(limit, 0, "limit")
    if seat not in targets and responder.has_lost_at(seat):
        raise InvalidSeat(seat)
    return _played(sizes, targets, seat, caller, responder, limit)


def _played(sizes, targets, seat, caller, responder, limit):
    goals = set(targets)
    current = seat
    moves = []
    seats = [current]
    while current not in goals and len(moves) < limit:
        # The turn is that of this game: the players keep their own.
        call = caller.call_at(len(moves), current)
        direction = responder.direction_at(len(moves), current, call)
        current = stepped(sizes, current, call, direction)
        moves.append((call, direction))
        seats.append(current)
    if current in goals:
        return (moves, seats, "reached")
    return (moves, seats, "open")


def _is_larger(number, other):
    # None stands for infinity.
    if other is None:
        return False
    return number is None or number > other


def _reduced_call(sizes, call):
    return tuple([part % size for part, size in zip(call, sizes)])


def _is_layers(strategy):
    return isinstance(strategy, str) and strategy == "layers"


def _is_list_of_calls(sizes, strategy):
    if not isinstance(strategy, list) or len(strategy) == 0:
        return False
    return all([is_call(sizes, entry) for entry in strategy])


def _is_common_witness(sizes, targets, strategy):
    """Tell whether the value is a witness whose residue is the value of every target."""
    if not is_witness(sizes, strategy):
        return False
    return all([has_residue(strategy, target) for target in targets])
