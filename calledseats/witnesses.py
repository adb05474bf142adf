"""Numbers that the modules need for witnesses."""

from math import gcd, lcm

from calledseats.tables import all_choices


def weighted_sum(weights, vector):
    """Return the sum of weight * part, which is a value before the modulus is applied."""
    return sum([weight * part for weight, part in zip(weights, vector)])


def has_residue(witness, seat):
    """Tell whether the value of the seat is the residue of the witness."""
    modulus, weights, residue = witness
    return weighted_sum(weights, seat) % modulus == residue


def direction_off(witness, seat, call):
    """Return the direction of [4.1] from a seat whose value is not the residue."""
    modulus, weights, residue = witness
    # A whole turn of a ring adds a multiple of the modulus, so the step need not be reduced.
    if (weighted_sum(weights, seat) + weighted_sum(weights, call)) % modulus == residue:
        return "backward"
    return "forward"


def common_divisor(modulus, weights):
    """Return the greatest integer that divides the modulus and all weights."""
    common = modulus
    for weight in weights:
        common = gcd(common, weight)
    return common


def canonical_weights(sizes):
    """Return the pairs (modulus, weights) of all canonical witnesses, ascending."""
    # The modulus divides a common multiple of the sizes: each weight * size is a
    # multiple of it, and no part of it divides all weights.
    common = 1
    for size in sizes:
        common = lcm(common, size)
    found = []
    for modulus in range(3, common + 1, 2):
        if common % modulus == 0:
            found.extend([(modulus, weights) for weights in _smallest_weights(sizes, modulus)])
    return found


def _smallest_weights(sizes, modulus):
    """Return the weights of the canonical witnesses with this modulus, ascending."""
    factors = [factor for factor in range(1, modulus) if gcd(factor, modulus) == 1]
    found = []
    seen = set()
    # In ascending order the first tuple among its own multiples is the smallest one.
    for weights in all_choices([_ring_weights(size, modulus) for size in sizes]):
        if weights not in seen and common_divisor(modulus, weights) == 1:
            found.append(weights)
            for factor in factors:
                seen.add(tuple([factor * weight % modulus for weight in weights]))
    return found


def _ring_weights(size, modulus):
    return list(range(0, modulus, modulus // gcd(modulus, size)))


def least_odd_prime(number):
    """Return the least odd prime that divides the number, None for a power of 2."""
    for divisor in range(3, number + 1, 2):
        if number % divisor == 0:
            return divisor
    return None


def odd_prime_powers(sizes):
    """Return (prime, power) for all powers of odd primes that divide a size, by ascending powers."""
    found = []
    for power in range(3, max(sizes) + 1, 2):
        if any([size % power == 0 for size in sizes]):
            prime = least_odd_prime(power)
            rest = power
            while rest % prime == 0:
                rest = rest // prime
            if rest == 1:
                found.append((prime, power))
    return found


def onto_weights(sizes, prime, modulus):
    """Return weights for which all values are taken, of each such weights one multiple.

    The modulus is a power of the prime. Weights that are multiples of each other,
    by an integer without a common divisor with the modulus, split the seats alike.
    """
    found = []
    for lead, lead_size in enumerate(sizes):
        # All values are taken if one weight has no common divisor with the modulus: the first is made 1.
        if lead_size % modulus == 0:
            choices = [_ring_weights(size, modulus) for size in sizes]
            for at in range(lead):
                choices[at] = [weight for weight in choices[at] if weight % prime == 0]
            choices[lead] = [1]
            found.extend(all_choices(choices))
    return found


def sums_of_all(sizes, weights):
    """Return the weighted sums of all seats in ascending order of the seats."""
    sums = [0]
    for size, weight in zip(sizes, weights):
        added = [weight * place for place in range(size)]
        sums = [base + part for base in sums for part in added]
    return sums
