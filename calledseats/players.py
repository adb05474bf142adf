"""Players for both sides, and games between them."""

from calledseats.checks import is_call, is_direction, is_integer, is_witness, require_seat, require_targets
from calledseats.errors import InvalidNumber, InvalidSeat, InvalidStrategy, Mismatch
from calledseats.layers import explore
from calledseats.reach import value
from calledseats.tables import require_small, sizes_of


def avoiding_direction(table, witness, seat, call):
    """Return a direction that does not lead to the residue of the witness."""
    if value(table, witness, seat) == witness[2]:
        raise InvalidSeat(seat)
    forward, _ = table.moves(seat, call)
    if value(table, witness, forward) == witness[2]:
        return "backward"
    return "forward"


class Responder:
    """A player who picks directions."""

    def __init__(self, table, targets, strategy):
        sizes = sizes_of(table)
        require_targets(sizes, targets)
        self._witness = None
        self._directions = []
        self._numbers = {}
        if _is_layers(strategy):
            require_small(table)
            self._numbers, _ = explore(sizes, targets)
        elif _is_list_of_directions(strategy):
            self._directions = list(strategy)
        elif _is_common_witness(table, targets, strategy):
            self._witness = strategy
        else:
            raise InvalidStrategy(strategy)
        self._table = table
        self._targets = sorted(targets)
        self._turn = 0

    def answer(self, seat, call):
        """Return the direction for the call, and go on in a list of directions."""
        direction = self.direction_at(self._turn, seat, call)
        self._turn += 1
        return direction

    def direction_at(self, turn, seat, call):
        """Return the direction for the call, after so many calls of answer."""
        if self._witness is not None:
            return avoiding_direction(self._table, self._witness, seat, call)
        forward, backward = self._table.moves(seat, call)
        if self._directions:
            return self._directions[turn % len(self._directions)]
        if _is_larger(self._numbers.get(backward), self._numbers.get(forward)):
            return "backward"
        return "forward"

    def has_lost_at(self, seat):
        """Tell whether the seat has the residue that this player's witness avoids."""
        return self._witness is not None and value(self._table, self._witness, seat) == self._witness[2]

    def belongs_to(self, sizes, targets):
        """Tell whether the player was made for these ring sizes and targets."""
        return self._table.sizes() == sizes and self._targets == sorted(targets)


class Caller:
    """A player who names calls."""

    def __init__(self, table, targets, strategy):
        sizes = sizes_of(table)
        require_targets(sizes, targets)
        self._listed = []
        self._best = {}
        if _is_layers(strategy):
            require_small(table)
            _, self._best = explore(sizes, targets)
        elif _is_list_of_calls(sizes, strategy):
            self._listed = [_reduced_call(sizes, call) for call in strategy]
        else:
            raise InvalidStrategy(strategy)
        self._sizes = sizes
        self._targets = sorted(targets)
        self._turn = 0

    def next_call(self, seat):
        """Return the call from the seat, and go on in a list of calls."""
        call = self.call_at(self._turn, seat)
        self._turn += 1
        return call

    def call_at(self, turn, seat):
        """Return the call from the seat, after so many calls of next_call."""
        require_seat(self._sizes, seat)
        if self._listed:
            return self._listed[turn % len(self._listed)]
        return self._best.get(seat, (0,) * len(self._sizes))

    def belongs_to(self, sizes, targets):
        """Tell whether the player was made for these ring sizes and targets."""
        return self._sizes == sizes and self._targets == sorted(targets)


def play(table, targets, seat, caller, responder, limit):
    """Play a game and return its moves, its seats and its outcome."""
    sizes = sizes_of(table)
    require_targets(sizes, targets)
    require_seat(sizes, seat)
    if not isinstance(caller, Caller) or not caller.belongs_to(sizes, targets):
        raise Mismatch("caller")
    if not isinstance(responder, Responder) or not responder.belongs_to(sizes, targets):
        raise Mismatch("responder")
    if not is_integer(limit) or limit < 0:
        raise InvalidNumber("limit")
    if seat not in targets and responder.has_lost_at(seat):
        raise InvalidSeat(seat)
    return _played(table, targets, seat, caller, responder, limit)


def _played(table, targets, seat, caller, responder, limit):
    goals = set(targets)
    current = seat
    moves = []
    seats = [current]
    while current not in goals and len(moves) < limit:
        # The turn is that of this game: the players keep their own.
        call = caller.call_at(len(moves), current)
        direction = responder.direction_at(len(moves), current, call)
        current = table.step(current, call, direction)
        moves.append((call, direction))
        seats.append(current)
    if current in goals:
        return (moves, seats, "reached")
    return (moves, seats, "open")


def _is_larger(number, other):
    # None stands for infinity.
    if other is None:
        return False
    return number is None or number > other


def _reduced_call(sizes, call):
    return tuple([part % size for part, size in zip(call, sizes)])


def _is_layers(strategy):
    return isinstance(strategy, str) and strategy == "layers"


def _is_list_of_directions(strategy):
    if not isinstance(strategy, list) or len(strategy) == 0:
        return False
    return all([is_direction(entry) for entry in strategy])


def _is_list_of_calls(sizes, strategy):
    if not isinstance(strategy, list) or len(strategy) == 0:
        return False
    return all([is_call(sizes, entry) for entry in strategy])


def _is_common_witness(table, targets, strategy):
    """Tell whether the value is a witness whose residue is the value of every target."""
    if not is_witness(table.sizes(), strategy):
        return False
    return all([value(table, strategy, target) == strategy[2] for target in targets])
