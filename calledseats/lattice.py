"""Lattices of integer vectors, for the free shifts and for what is left beside them.

A place on a ring has an order that is a power of 2 if and only if it is a
multiple of the odd part of the size. So the free shifts are the seats in the
lattice of integer vectors that is spanned by the differences of targets and,
for each ring, by the vector with the odd part there and 0 elsewhere.

A basis of such a lattice is a list of rows in which the row with index k has
zeros ahead of index k and a positive integer there, its pivot.
"""

from math import gcd, lcm

from calledseats.witnesses import weighted_sum


def odd_part(size):
    """Return the greatest odd integer that divides the size."""
    # size & -size is the greatest power of 2 that divides the size.
    return size // (size & -size)


def difference(seat, other):
    """Return the vector from the other seat to the seat."""
    return [place - base for place, base in zip(seat, other)]


def shift_basis(sizes, targets):
    """Return a basis of the lattice of the free shifts."""
    odds = [odd_part(size) for size in sizes]
    basis = _diagonal(odds)
    for target in targets:
        basis = _with_vector(basis, odds, difference(target, targets[0]))
        if pivot_product(basis) == 1:
            # The lattice has all vectors already.
            return basis
    return basis


def pivot_product(basis):
    """Return the number of sets into which the lattice splits all vectors."""
    count = 1
    for at, row in enumerate(basis):
        count = count * row[at]
    return count


def inverse_column(basis, modulus, column):
    """Return the weights that give the modulus for one row and 0 for the others.

    The modulus is the product of the pivots, so all divisions are exact. The
    weights of all columns together are 0 modulo the modulus on a vector if and
    only if the vector is in the lattice.
    """
    weights = [0] * len(basis)
    weights[column] = modulus // basis[column][column]
    for at in reversed(range(column)):
        weights[at] = -weighted_sum(basis[at], weights) // basis[at][at]
    return weights


class CyclicParts:
    """The vectors modulo a lattice, taken apart into cyclic groups.

    The parts are those of Smith's normal form: the divisor of a part is its size,
    and it divides the next one. The weights of a part give, for a vector and
    modulo the divisor, how often it has the generator of the part.
    """

    def __init__(self, sizes, targets):
        # The lattice has all multiples of this modulus, so all integers are reduced by it.
        self._modulus = 1
        for size in sizes:
            self._modulus = lcm(self._modulus, odd_part(size))
        self._rows = shift_basis(sizes, targets)
        self._weights = _diagonal([1] * len(sizes))
        self._generators = _diagonal([1] * len(sizes))
        for at in range(len(sizes)):
            self._split_off(at)

    def parts(self):
        """Return (divisor, weights, generator) for all parts of a size above 1."""
        found = []
        for at, row in enumerate(self._rows):
            if row[at] > 1:
                found.append((row[at], list(self._weights[at]), list(self._generators[at])))
        return found

    def _split_off(self, at):
        """Change the basis until the row and the column at this index are 0 but for the divisor."""
        other = at
        while other is not None:
            self._clear_column(at)
            if not self._is_clear_row(at):
                self._clear_row(at)
                continue
            self._rows[at][at] = gcd(self._rows[at][at], self._modulus)
            other = self._undivided_row(at)
            if other is not None:
                self._rows[at] = self._sum_of(self._rows[at], 1, self._rows[other])

    def _clear_column(self, at):
        rows = self._rows
        for below in range(at + 1, len(rows)):
            while rows[below][at] != 0:
                factor = rows[at][at] // rows[below][at]
                lower = self._sum_of(rows[at], -factor, rows[below])
                rows[at], rows[below] = rows[below], lower

    def _is_clear_row(self, at):
        return not any(self._rows[at][at + 1:])

    def _clear_row(self, at):
        for beyond in range(at + 1, len(self._rows)):
            while self._rows[at][beyond] != 0:
                factor = self._rows[at][at] // self._rows[at][beyond]
                self._swap_columns(at, beyond, factor)

    def _swap_columns(self, at, beyond, factor):
        """Take the column beyond so many times off the column at this index, and swap both."""
        swapped = []
        for row in self._rows:
            changed = list(row)
            changed[at] = row[beyond]
            changed[beyond] = (row[at] - factor * row[beyond]) % self._modulus
            swapped.append(changed)
        self._rows = swapped
        lower = self._sum_of(self._weights[at], -factor, self._weights[beyond])
        self._weights[at], self._weights[beyond] = self._weights[beyond], lower
        upper = self._sum_of(self._generators[beyond], factor, self._generators[at])
        self._generators[beyond], self._generators[at] = self._generators[at], upper

    def _undivided_row(self, at):
        """Return the index of a later row with an entry that the divisor does not divide."""
        for below in range(at + 1, len(self._rows)):
            if any([entry % self._rows[at][at] != 0 for entry in self._rows[below]]):
                return below
        return None

    def _sum_of(self, row, factor, other):
        return [(part + factor * added) % self._modulus for part, added in zip(row, other)]


def _diagonal(entries):
    rows = []
    for at, entry in enumerate(entries):
        row = [0] * len(entries)
        row[at] = entry
        rows.append(row)
    return rows


def _with_vector(basis, odds, vector):
    """Return a basis of the lattice of the given basis and one more vector."""
    rest = _reduced(vector, odds)
    rows = []
    for at, row in enumerate(basis):
        pivoted = row
        # Euclid's steps on whole rows leave 0 in the rest and the divisor in the row.
        while rest[at] != 0:
            factor = rest[at] // pivoted[at]
            lower = [part - factor * upper for part, upper in zip(rest, pivoted)]
            # The rows behind this one span the odd parts of their rings, so
            # reducing by these changes nothing and keeps the integers small.
            rest = _reduced(lower, odds)
            if rest[at] != 0:
                pivoted, rest = rest, pivoted
        rows.append(pivoted)
    return rows


def _reduced(vector, odds):
    return [part % odd for part, odd in zip(vector, odds)]
