"""Sums of targets on one ring, which show how many calls suffice."""

from math import gcd

from calledseats.checks import is_integer, require_number, require_place, require_places
from calledseats.errors import InvalidNumber, InvalidWitness, TooLarge
from calledseats.spread import Grid, Spread
from calledseats.witnesses import weighted_sum

MAX_SIZE = 2000
MAX_LISTED_CALLS = 40
MAX_CHECKED_CALLS = 1000


def min_calls_on_ring(size, targets, place):
    """Return the least number of calls from the place, None if no number suffices."""
    _require_ring(size, targets, place)
    _require_at_most(size, MAX_SIZE)
    return _spread_on_ring(size, targets).number_of(place)


def min_calls_two(size, first, second, place):
    """Return the least number of calls for two targets on a ring of any size."""
    _require_two(size, first, second, place)
    found = _least_sum_of_two(size, second - first, place - first)
    if found is None:
        return None
    return found[0]


def sum_counts(size, targets, place, calls):
    """Return a sum for the place and the number of calls, None if there is none."""
    _require_ring(size, targets, place)
    require_number(calls, 0, "calls")
    _require_at_most(size, MAX_SIZE)
    _require_at_most(calls, MAX_LISTED_CALLS)
    spread = _spread_on_ring(size, targets)
    number = spread.number_of(place)
    if number is None or number > calls:
        return None
    shares = _shares_of_targets(spread, size, place, 1 << calls)
    return [shares.get(target, 0) for target in targets]


def two_target_sum(size, first, second, place):
    """Return the least number of calls for two targets and a sum, None if there is none."""
    _require_two(size, first, second, place)
    found = _least_sum_of_two(size, second - first, place - first)
    if found is None:
        return None
    calls, count = found
    return (calls, [(1 << calls) - count, count])


def check_sum(size, targets, place, calls, counts):
    """Raise InvalidWitness unless the counts are a sum for the place and the number of calls."""
    _require_ring(size, targets, place)
    require_number(calls, 0, "calls")
    _require_at_most(calls, MAX_CHECKED_CALLS)
    _require_counts(targets, counts)
    total = 1 << calls
    if sum(counts) != total:
        raise InvalidWitness(len(targets))
    _require_congruence(size, targets, place, counts, total)


def call_from_sum(size, targets, place, counts):
    """Return a call and, for the places after it forward and backward, sums for one call fewer."""
    _require_ring(size, targets, place)
    _require_counts(targets, counts)
    total = sum(counts)
    if total < 2 or total & (total - 1) != 0:
        raise InvalidWitness(len(targets))
    _require_congruence(size, targets, place, counts, total)
    # The total is 2 ** calls.
    calls = total.bit_length() - 1
    goal, forward = _exact_half(targets, counts, calls - 1)
    backward = [count - part for count, part in zip(counts, forward)]
    return ((goal - place) % size, forward, backward)


def _require_ring(size, targets, place):
    require_number(size, 1, "size")
    require_places(size, targets)
    require_place(size, place, "place")


def _require_two(size, first, second, place):
    require_number(size, 1, "size")
    require_place(size, first, "first")
    require_place(size, second, "second")
    if second == first:
        raise InvalidNumber("second")
    require_place(size, place, "place")


def _require_at_most(number, limit):
    if number > limit:
        raise TooLarge(limit)


def _require_counts(targets, counts):
    """Raise InvalidWitness unless the value is a list of a count for each target."""
    if not isinstance(counts, list) or len(counts) != len(targets):
        raise InvalidWitness(-1)
    for index, count in enumerate(counts):
        if not is_integer(count) or count < 0:
            raise InvalidWitness(index)


def _require_congruence(size, targets, place, counts, total):
    if (weighted_sum(counts, targets) - total * place) % size != 0:
        raise InvalidWitness(len(targets) + 1)


def _spread_on_ring(size, targets):
    # On a table with one ring the places are the indexes of the seats.
    return Spread(Grid((size,)), targets)


def _shares_of_targets(spread, size, place, total):
    """Return counts of targets, by target, that add up to the total and to total * place."""
    shares = [{} for _ in range(spread.number_of(place) + 1)]
    shares[-1][place] = total
    for number in range(len(shares) - 1, 0, -1):
        row = list(shares[number].items())
        for current, share in row:
            # Twice the place is the sum of its two moves, which have smaller numbers.
            call = spread.call_from(current)[0]
            for move in ((current + call) % size, (current - call) % size):
                lower = shares[spread.number_of(move)]
                lower[move] = lower.get(move, 0) + share // 2
    return shares[0]


def _least_sum_of_two(size, step, gap):
    """Return (calls, count) for the targets 0 and step, with the least calls; None if there is no sum.

    The count is that of the second target: count * step is 2 ** calls * gap modulo the size.
    """
    common = gcd(step, size)
    missing = common // gcd(common, gap)
    if missing & (missing - 1) != 0:
        # No power of 2 makes the gap a multiple of the common divisor.
        return None
    calls = missing.bit_length() - 1
    turn = size // common
    total = missing
    count = gap * missing // common * _inverse(step // common % turn, turn) % turn
    while count > total:
        calls += 1
        total = 2 * total
        count = 2 * count % turn
    return (calls, count)


def _inverse(number, modulus):
    """Return the integer whose product with the number is 1 modulo the modulus."""
    larger, smaller = modulus, number
    before, factor = 0, 1
    # Each of the two divisors is its factor times the number, modulo the modulus.
    while smaller != 0:
        times = larger // smaller
        larger, smaller = smaller, larger - times * smaller
        before, factor = factor, before - times * factor
    return before % modulus


def _exact_half(targets, counts, levels):
    """Return (goal, part): a part of the counts with 2 ** levels targets whose sum is goal * 2 ** levels.

    The counts have twice as many targets. Two of any three integers have an even sum. So pairs
    with an even sum can be formed until at most two targets are left. Half of its sum stands for
    each pair, pairs of pairs follow, and so on. If two are left at one level, then the number of
    pairs is odd there and one is left at each later level: so one remains at the end. Copies of
    one target form pairs among themselves first, which keeps the lists short.
    """
    rests = list(counts)
    halves = []
    steps = []
    for _ in range(levels):
        singles = [(targets[at], True, at) for at, rest in enumerate(rests) if rest % 2 == 1]
        singles.extend([(half, False, at) for at, half in enumerate(halves)])
        pairs = _pairs_of_one_parity(singles)
        steps.append(pairs)
        halves = [(left[0] + right[0]) // 2 for left, right in pairs]
        rests = [rest // 2 for rest in rests]
    for at, rest in enumerate(rests):
        if rest > 0:
            part = [0] * len(counts)
            part[at] = 1 << levels
            return (targets[at], part)
    return (halves[0], _targets_of_first_pair(steps, len(counts)))


def _pairs_of_one_parity(singles):
    """Return pairs of entries that begin with integers of the same parity, as many as possible."""
    held = {}
    pairs = []
    for single in singles:
        parity = single[0] % 2
        if parity in held:
            pairs.append((held.pop(parity), single))
        else:
            held[parity] = single
    return pairs


def _targets_of_first_pair(steps, many):
    """Return how often each of so many targets stands in the first pair of the last step."""
    part = [0] * many
    chosen = [0]
    for level in reversed(range(len(steps))):
        below = []
        for at in chosen:
            for _, is_target, source in steps[level][at]:
                if is_target:
                    part[source] += 1 << level
                else:
                    below.append(source)
        chosen = below
    return part
