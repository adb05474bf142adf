"""Which seats the caller can reach, and witnesses for those out of reach.

A place on a ring has an order that is a power of 2 if and only if it is a
multiple of the odd part of the size. So the free shifts are the seats in the
lattice of integer vectors that is spanned by the differences of targets and,
for each ring, by the vector with the odd part there and 0 elsewhere.

A basis of such a lattice is a list of rows in which the row with index k has
zeros ahead of index k and a positive integer there, its pivot.
"""

from calledseats.checks import require_seat, require_targets, require_witness
from calledseats.errors import InvalidWitness
from calledseats.tables import sizes_of
from calledseats.witnesses import common_divisor, weighted_sum


def coset_count(table, targets):
    """Return the number of sets into which the free shifts split the seats."""
    sizes = sizes_of(table)
    require_targets(sizes, targets)
    return _pivot_product(_shift_basis(sizes, targets))


def reach(table, targets, seat):
    """Tell whether the caller can reach a target, with a witness if not."""
    sizes = sizes_of(table)
    require_targets(sizes, targets)
    require_seat(sizes, seat)
    basis = _shift_basis(sizes, targets)
    shift = _difference(seat, targets[0])
    modulus = _pivot_product(basis)
    for column in range(len(sizes)):
        weights = _inverse_column(basis, modulus, column)
        if weighted_sum(weights, shift) % modulus != 0:
            return ("unreachable", _short_witness(modulus, weights, targets[0]))
    return ("reachable",)


def check_witness(table, targets, seat, witness):
    """Raise InvalidWitness unless the witness shows that the seat is unreachable."""
    sizes = sizes_of(table)
    require_targets(sizes, targets)
    require_seat(sizes, seat)
    require_witness(sizes, witness)
    modulus, weights, residue = witness
    for index, target in enumerate(targets):
        if weighted_sum(weights, target) % modulus != residue:
            raise InvalidWitness(index)
    if weighted_sum(weights, seat) % modulus == residue:
        raise InvalidWitness(len(targets))


def value(table, witness, seat):
    """Return the value of the seat under the witness."""
    sizes = sizes_of(table)
    require_witness(sizes, witness)
    require_seat(sizes, seat)
    modulus, weights, _ = witness
    return weighted_sum(weights, seat) % modulus


def _difference(seat, other):
    return [place - base for place, base in zip(seat, other)]


def _odd_part(size):
    # size & -size is the greatest power of 2 that divides the size.
    return size // (size & -size)


def _shift_basis(sizes, targets):
    """Return a basis of the lattice of the free shifts."""
    odds = [_odd_part(size) for size in sizes]
    basis = _diagonal(odds)
    for target in targets:
        basis = _with_vector(basis, odds, _difference(target, targets[0]))
    return basis


def _diagonal(entries):
    rows = []
    for at, entry in enumerate(entries):
        row = [0] * len(entries)
        row[at] = entry
        rows.append(row)
    return rows


def _with_vector(basis, odds, vector):
    """Return a basis of the lattice of the given basis and one more vector."""
    rest = _reduced(vector, odds)
    rows = []
    for at, row in enumerate(basis):
        pivoted = row
        # Euclid's steps on whole rows leave 0 in the rest and the divisor in the row.
        while rest[at] != 0:
            factor = pivoted[at] // rest[at]
            lower = [upper - factor * part for upper, part in zip(pivoted, rest)]
            # The rows behind this one span the odd parts of their rings, so
            # reducing by these changes nothing and keeps the integers small.
            pivoted, rest = rest, _reduced(lower, odds)
        rows.append(pivoted)
    return rows


def _reduced(vector, odds):
    return [part % odd for part, odd in zip(vector, odds)]


def _pivot_product(basis):
    """Return the number of sets into which the lattice splits all vectors."""
    count = 1
    for at, row in enumerate(basis):
        count = count * row[at]
    return count


def _inverse_column(basis, modulus, column):
    """Return the weights that give the modulus for one row and 0 for the others.

    The modulus is the product of the pivots, so all divisions are exact. The
    weights of all columns together are 0 modulo the modulus on a vector if and
    only if the vector is in the lattice.
    """
    weights = [0] * len(basis)
    weights[column] = modulus // basis[column][column]
    for at in reversed(range(column)):
        weights[at] = -weighted_sum(basis[at], weights) // basis[at][at]
    return weights


def _short_witness(modulus, weights, target):
    """Return a witness with the value of the target as its residue."""
    common = common_divisor(modulus, weights)
    small = modulus // common
    reduced = tuple([weight // common % small for weight in weights])
    return (small, reduced, weighted_sum(reduced, target) % small)
