"""Which seats the caller can reach, and witnesses for those out of reach."""

from calledseats.checks import require_seat, require_targets, require_witness
from calledseats.errors import InvalidWitness
from calledseats.lattice import difference, inverse_column, pivot_product, shift_basis
from calledseats.tables import sizes_of
from calledseats.witnesses import common_divisor, has_residue, weighted_sum


def coset_count(table, targets):
    """Return the number of sets into which the free shifts split the seats."""
    sizes = sizes_of(table)
    require_targets(sizes, targets)
    return pivot_product(shift_basis(sizes, targets))


def reach(table, targets, seat):
    """Tell whether the caller can reach a target, with a witness if not."""
    sizes = sizes_of(table)
    require_targets(sizes, targets)
    require_seat(sizes, seat)
    basis = shift_basis(sizes, targets)
    shift = difference(seat, targets[0])
    modulus = pivot_product(basis)
    for column in range(len(sizes)):
        weights = inverse_column(basis, modulus, column)
        if weighted_sum(weights, shift) % modulus != 0:
            return ("unreachable", _short_witness(modulus, weights, targets[0]))
    return ("reachable",)


def check_witness(table, targets, seat, witness):
    """Raise InvalidWitness unless the witness shows that the seat is unreachable."""
    sizes = sizes_of(table)
    require_targets(sizes, targets)
    require_seat(sizes, seat)
    require_witness(sizes, witness)
    for index, target in enumerate(targets):
        if not has_residue(witness, target):
            raise InvalidWitness(index)
    if has_residue(witness, seat):
        raise InvalidWitness(len(targets))


def value(table, witness, seat):
    """Return the value of the seat under the witness."""
    sizes = sizes_of(table)
    require_witness(sizes, witness)
    require_seat(sizes, seat)
    modulus, weights, _ = witness
    return weighted_sum(weights, seat) % modulus


def _short_witness(modulus, weights, target):
    """Return a witness with the value of the target as its residue."""
    common = common_divisor(modulus, weights)
    small = modulus // common
    reduced = tuple([weight // common % small for weight in weights])
    return (small, reduced, weighted_sum(reduced, target) % small)
