"""How many targets are needed, and which seats the responder can avoid."""

from itertools import combinations
from math import gcd

from calledseats.checks import are_weights, is_integer, is_modulus, require_seat, require_seats, require_targets
from calledseats.errors import InvalidNumber, InvalidWitness
from calledseats.lattice import CyclicParts, odd_part
from calledseats.reach import reach
from calledseats.tables import all_seats, require_small, sizes_of
from calledseats.witnesses import common_divisor, least_odd_prime, onto_weights, sums_of_all, weighted_sum


def min_targets(table):
    """Return the smallest number of targets that are complete."""
    odds = [odd_part(size) for size in sizes_of(table)]
    most = 0
    for many in range(1, len(odds) + 1):
        if any([common_divisor(0, chosen) > 1 for chosen in combinations(odds, many)]):
            most = many
    return 1 + most


def minimal_targets(table):
    """Return as few targets as possible that are complete."""
    sizes = sizes_of(table)
    zero = (0,) * len(sizes)
    found = [zero]
    for part in CyclicParts(sizes, [zero]).parts():
        generator = part[2]
        # A multiple of the odd part of a size is a free shift.
        found.append(tuple([place % odd_part(size) for place, size in zip(generator, sizes)]))
    return found


def min_more_targets(table, targets):
    """Return the smallest number of seats that make the targets complete, and a rank witness."""
    sizes = sizes_of(table)
    require_targets(sizes, targets)
    parts = CyclicParts(sizes, targets).parts()
    if not parts:
        return (0, None)
    # The first divisor divides the others, so the weights of all parts fit it.
    modulus = parts[0][0]
    rows = [tuple([weight % modulus for weight in part[1]]) for part in parts]
    return (len(parts), (modulus, rows))


def check_min_targets(table, targets, count, witness):
    """Raise InvalidWitness unless the witness shows that fewer seats than the count do not suffice."""
    sizes = sizes_of(table)
    require_targets(sizes, targets)
    if not is_integer(count) or not 1 <= count <= len(sizes):
        raise InvalidNumber("count")
    if not _looks_like_rank_witness(count, witness):
        raise InvalidWitness(-1)
    modulus, rows = witness
    for index, row in enumerate(rows):
        if not are_weights(sizes, modulus, row) or not _is_constant(modulus, row, targets):
            raise InvalidWitness(index)
    common = modulus
    for columns in combinations(range(len(sizes)), count):
        common = gcd(common, _determinant([[row[column] for column in columns] for row in rows]))
    if common != 1:
        raise InvalidWitness(count)


def can_avoid(table, seat, seats):
    """Tell whether the responder can keep the walker away from all of the seats forever."""
    sizes = sizes_of(table)
    require_seat(sizes, seat)
    require_seats(sizes, seats)
    if len(seats) == 0:
        return True
    return reach(table, seats, seat)[0] == "unreachable"


def avoided_sets(table, seat):
    """Return all largest sets of seats that the responder can avoid from the seat."""
    sizes = sizes_of(table)
    require_seat(sizes, seat)
    require_small(table)
    prime = least_odd_prime(table.count())
    if prime is None:
        return []
    found = []
    for weights in onto_weights(sizes, prime, prime):
        classes = [[] for _ in range(prime)]
        for index, total in enumerate(sums_of_all(sizes, weights)):
            classes[total % prime].append(index)
        del classes[weighted_sum(weights, seat) % prime]
        found.extend(classes)
    seats = all_seats(sizes)
    return [[seats[at] for at in chosen] for chosen in sorted(found)]


def _looks_like_rank_witness(count, witness):
    """Tell whether the value has a modulus and a list of so many rows."""
    if not isinstance(witness, tuple) or len(witness) != 2:
        return False
    modulus, rows = witness
    return is_modulus(modulus) and isinstance(rows, list) and len(rows) == count


def _is_constant(modulus, weights, targets):
    """Tell whether all targets have the same value."""
    first = weighted_sum(weights, targets[0])
    return all([(weighted_sum(weights, target) - first) % modulus == 0 for target in targets])


def _determinant(rows):
    if not rows:
        return 1
    total = 0
    sign = 1
    for at, entry in enumerate(rows[0]):
        total += sign * entry * _determinant([row[:at] + row[at + 1:] for row in rows[1:]])
        sign = -sign
    return total
