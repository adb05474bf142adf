"""Checks of arguments, over the ring sizes of a table that is valid."""

from calledseats.errors import InvalidCall, InvalidDirection, InvalidMoves, InvalidSeat, InvalidTargets
from calledseats.errors import InvalidWitness


def is_integer(number):
    """Tell whether the value is an int that is not a bool."""
    return isinstance(number, int) and not isinstance(number, bool)


def is_seat(sizes, seat):
    """Tell whether the value is a seat of the table with these ring sizes."""
    if not isinstance(seat, tuple) or len(seat) != len(sizes):
        return False
    return all([is_integer(place) and 0 <= place < size for place, size in zip(seat, sizes)])


def is_call(sizes, call):
    """Tell whether the value is a call for the table with these ring sizes."""
    if not isinstance(call, tuple) or len(call) != len(sizes):
        return False
    return all([is_integer(part) for part in call])


def is_direction(direction):
    """Tell whether the value is one of the two directions."""
    return isinstance(direction, str) and direction in ("forward", "backward")


def is_move(sizes, move):
    """Tell whether the value is a move for the table with these ring sizes."""
    if not isinstance(move, tuple) or len(move) != 2:
        return False
    call, direction = move
    return is_call(sizes, call) and is_direction(direction)


def is_modulus(modulus):
    """Tell whether the value can be the modulus of a witness."""
    return is_integer(modulus) and modulus >= 3 and modulus % 2 == 1


def are_weights(sizes, modulus, weights):
    """Tell whether the value can be the weights beside this modulus."""
    # Weights look like a seat of a table whose rings all have the modulus as their size.
    if not is_seat([modulus] * len(sizes), weights):
        return False
    return all([weight * size % modulus == 0 for weight, size in zip(weights, sizes)])


def is_witness(sizes, witness):
    """Tell whether the value is a witness for the table with these ring sizes."""
    if not isinstance(witness, tuple) or len(witness) != 3:
        return False
    modulus, weights, residue = witness
    if not is_modulus(modulus) or not are_weights(sizes, modulus, weights):
        return False
    return is_integer(residue) and 0 <= residue < modulus


def require_seat(sizes, seat):
    """Raise InvalidSeat for a value that is not a seat."""
    if not is_seat(sizes, seat):
        raise InvalidSeat(seat)


def require_call(sizes, call):
    """Raise InvalidCall for a value that is not a call."""
    if not is_call(sizes, call):
        raise InvalidCall(call)


def require_direction(direction):
    """Raise InvalidDirection for a value that is not a direction."""
    if not is_direction(direction):
        raise InvalidDirection(direction)


def require_witness(sizes, witness):
    """Raise InvalidWitness(-1) for a value that is not a witness."""
    if not is_witness(sizes, witness):
        raise InvalidWitness(-1)


def require_targets(sizes, targets):
    """Raise InvalidTargets unless the value holds different seats, at least one."""
    if not isinstance(targets, (list, tuple)) or len(targets) == 0:
        raise InvalidTargets(-1)
    seen = set()
    for index, seat in enumerate(targets):
        # The kind comes first: only a seat is sure to be hashable.
        if not is_seat(sizes, seat) or seat in seen:
            raise InvalidTargets(index)
        seen.add(seat)


def require_moves(sizes, moves):
    """Raise InvalidMoves for a value that is not a list or tuple of moves."""
    if not isinstance(moves, (list, tuple)):
        raise InvalidMoves(-1)
    for index, move in enumerate(moves):
        if not is_move(sizes, move):
            raise InvalidMoves(index)
