"""Numbers that the modules need for witnesses."""

from math import gcd, lcm

from calledseats.tables import all_choices


def weighted_sum(weights, vector):
    """Return the sum of weight * part, which is a value before the modulus is applied."""
    return sum([weight * part for weight, part in zip(weights, vector)])


def common_divisor(modulus, weights):
    """Return the greatest integer that divides the modulus and all weights."""
    common = modulus
    for weight in weights:
        common = gcd(common, weight)
    return common


def canonical_weights(sizes):
    """Return the pairs (modulus, weights) of all canonical witnesses, ascending."""
    # The modulus divides a common multiple of the sizes: each weight * size is a
    # multiple of it, and no part of it divides all weights.
    common = 1
    for size in sizes:
        common = lcm(common, size)
    found = []
    for modulus in range(3, common + 1, 2):
        if common % modulus == 0:
            found.extend([(modulus, weights) for weights in _smallest_weights(sizes, modulus)])
    return found


def _smallest_weights(sizes, modulus):
    """Return the weights of the canonical witnesses with this modulus, ascending."""
    factors = [factor for factor in range(1, modulus) if gcd(factor, modulus) == 1]
    found = []
    seen = set()
    # In ascending order the first tuple among its own multiples is the smallest one.
    for weights in all_choices([_ring_weights(size, modulus) for size in sizes]):
        if weights not in seen and common_divisor(modulus, weights) == 1:
            found.append(weights)
            for factor in factors:
                seen.add(tuple([factor * weight % modulus for weight in weights]))
    return found


def _ring_weights(size, modulus):
    return list(range(0, modulus, modulus // gcd(modulus, size)))
