"""Checks of arguments, over the ring sizes of a table that is valid."""

from calledseats.errors import InvalidCall, InvalidDirection, InvalidMoves, InvalidNumber, InvalidSeat
from calledseats.errors import InvalidTargets, InvalidWitness


def is_integer(number):
    """Tell whether the value is an int that is not a bool."""
    return isinstance(number, int) and not isinstance(number, bool)


def is_place(size, place):
    """Tell whether the value is a place on a ring of this size."""
    return isinstance(place, int) and not isinstance(place, bool) and 0 <= place < size


def is_seat(sizes, seat):
    """Tell whether the value is a seat of the table with these ring sizes."""
    if not isinstance(seat, tuple) or len(seat) != len(sizes):
        return False
    # Written out, not by is_place: seats are checked more often than anything else.
    for place, size in zip(seat, sizes):
        if not isinstance(place, int) or isinstance(place, bool) or not 0 <= place < size:
            return False
    return True


def is_call(sizes, call):
    """Tell whether the value is a call for the table with these ring sizes."""
    if not isinstance(call, tuple) or len(call) != len(sizes):
        return False
    for part in call:
        if not isinstance(part, int) or isinstance(part, bool):
            return False
    return True


def is_direction(direction):
    """Tell whether the value is one of the two directions."""
    return isinstance(direction, str) and direction in ("forward", "backward")


def is_list_of_directions(directions):
    """Tell whether the value is a list of directions, at least one."""
    if not isinstance(directions, list) or len(directions) == 0:
        return False
    return all([is_direction(entry) for entry in directions])


def is_move(sizes, move):
    """Tell whether the value is a move for the table with these ring sizes."""
    if not isinstance(move, tuple) or len(move) != 2:
        return False
    call, direction = move
    return is_call(sizes, call) and is_direction(direction)


def is_modulus(modulus):
    """Tell whether the value can be the modulus of a witness."""
    return is_integer(modulus) and modulus >= 3 and modulus % 2 == 1


def are_weights(sizes, modulus, weights):
    """Tell whether the value can be the weights beside this modulus."""
    # Weights look like a seat of a table whose rings all have the modulus as their size.
    if not is_seat([modulus] * len(sizes), weights):
        return False
    return all([weight * size % modulus == 0 for weight, size in zip(weights, sizes)])


def is_witness(sizes, witness):
    """Tell whether the value is a witness for the table with these ring sizes."""
    if not isinstance(witness, tuple) or len(witness) != 3:
        return False
    modulus, weights, residue = witness
    if not is_modulus(modulus) or not are_weights(sizes, modulus, weights):
        return False
    return is_place(modulus, residue)


def require_seat(sizes, seat):
    """Raise InvalidSeat for a value that is not a seat."""
    if not is_seat(sizes, seat):
        raise InvalidSeat(seat)


def require_call(sizes, call):
    """Raise InvalidCall for a value that is not a call."""
    if not is_call(sizes, call):
        raise InvalidCall(call)


def require_direction(direction):
    """Raise InvalidDirection for a value that is not a direction."""
    if not is_direction(direction):
        raise InvalidDirection(direction)


def require_witness(sizes, witness):
    """Raise InvalidWitness(-1) for a value that is not a witness."""
    if not is_witness(sizes, witness):
        raise InvalidWitness(-1)


def require_seats(sizes, seats):
    """Raise InvalidTargets unless the value holds different seats, or none."""
    if not isinstance(seats, (list, tuple)):
        raise InvalidTargets(-1)
    seen = set()
    for index, seat in enumerate(seats):
        # The kind comes first: only a seat is sure to be hashable.
        if not is_seat(sizes, seat) or seat in seen:
            raise InvalidTargets(index)
        seen.add(seat)


def require_targets(sizes, targets):
    """Raise InvalidTargets unless the value holds different seats, at least one."""
    require_seats(sizes, targets)
    if len(targets) == 0:
        raise InvalidTargets(-1)


def require_moves(sizes, moves):
    """Raise InvalidMoves for a value that is not a list or tuple of moves."""
    if not isinstance(moves, (list, tuple)):
        raise InvalidMoves(-1)
    for index, move in enumerate(moves):
        if not is_move(sizes, move):
            raise InvalidMoves(index)


def require_number(number, least, name):
    """Raise InvalidNumber with the name unless the value is an integer that is large enough."""
    if not is_integer(number) or number < least:
        raise InvalidNumber(name)


def require_place(size, place, name):
    """Raise InvalidNumber with the name for a value that is not a place on a ring of this size."""
    if not is_place(size, place):
        raise InvalidNumber(name)


def require_places(size, targets):
    """Raise InvalidTargets unless the value holds different places of one ring, at least one."""
    if not isinstance(targets, (list, tuple)) or len(targets) == 0:
        raise InvalidTargets(-1)
    seen = set()
    for index, place in enumerate(targets):
        if not is_place(size, place) or place in seen:
            raise InvalidTargets(index)
        seen.add(place)
