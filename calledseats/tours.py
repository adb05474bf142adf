"""Tours: the caller wants to visit many seats of a small table, the responder keeps seats unvisited."""

from calledseats.checks import is_list_of_directions, is_witness, require_number, require_seat, require_seats
from calledseats.checks import require_witness
from calledseats.errors import InvalidStrategy, InvalidWitness, TooLarge
from calledseats.reach import reach
from calledseats.spread import Grid, Spread, spread_from
from calledseats.tables import all_seats, both_moves, require_small, sizes_of, stepped
from calledseats.witnesses import direction_off, has_residue, least_odd_prime, odd_prime_powers, onto_weights
from calledseats.witnesses import sums_of_all, weighted_sum

MAX_SEARCHED = 9


def max_visited(table):
    """Return the number of seats that the caller can visit on a fresh table."""
    sizes_of(table)
    require_small(table)
    count = table.count()
    prime = least_odd_prime(count)
    if prime is None:
        return count
    return count - count // prime


def kept_empty(table, visited, seat):
    """Return the greatest number of seats that one witness keeps unvisited, and the witness."""
    sizes = _checked_sizes(table, visited, seat)
    require_small(table)
    seen = _seen(visited, seat)
    is_open = [other not in seen for other in all_seats(sizes)]
    best = (0, None)
    for prime, modulus in odd_prime_powers(sizes):
        for weights in onto_weights(sizes, prime, modulus):
            # Each residue has the same number of seats, and the moduli ascend.
            if best[0] * modulus >= len(is_open):
                return best
            sums = [total for total, counted in zip(sums_of_all(sizes, weights), is_open) if counted]
            count, residue = _most_kept(sums, weighted_sum(weights, seat), prime, modulus)
            if count > best[0]:
                best = (count, (modulus, weights, residue))
    return best


def tour_call(table, visited, seat):
    """Return a call toward an unvisited seat, or tell that the tour is complete or at its end."""
    sizes = _checked_sizes(table, visited, seat)
    require_small(table)
    rest = _unvisited(sizes, visited, seat)
    if not rest:
        return ("complete",)
    grid = Grid(sizes)
    call = spread_from(grid, rest).call_from(grid.index_of(seat))
    if call is None:
        return ("end", reach(table, rest, seat)[1])
    return ("call", call)


def run_tour(table, seat, responder, limit):
    """Play a tour and return its moves, its seats and its outcome."""
    sizes = sizes_of(table)
    require_seat(sizes, seat)
    if not is_list_of_directions(responder) and not _is_witness_off(sizes, responder, seat):
        raise InvalidStrategy(responder)
    require_number(limit, 0, "limit")
    require_small(table)
    return _toured(sizes, seat, responder, limit)


def check_end(table, visited, seat, witness):
    """Raise InvalidWitness unless the witness separates the seat from all unvisited seats."""
    sizes = _checked_sizes(table, visited, seat)
    require_small(table)
    require_witness(sizes, witness)
    rest = _unvisited(sizes, visited, seat)
    for index, other in enumerate(rest):
        if not has_residue(witness, other):
            raise InvalidWitness(index)
    if has_residue(witness, seat):
        raise InvalidWitness(len(rest))


def max_more(table, visited, seat):
    """Return the number of unvisited seats that the caller can still visit."""
    sizes = _checked_sizes(table, visited, seat)
    if table.count() > MAX_SEARCHED:
        raise TooLarge(MAX_SEARCHED)
    seats = all_seats(sizes)
    bits = {other: 1 << at for at, other in enumerate(seats)}
    start = bits[seat]
    for other in visited:
        start |= bits[other]
    return _more_by_search(_pairs_of_moves(sizes, seats, bits), start)[seats.index(seat)]


def _checked_sizes(table, visited, seat):
    sizes = sizes_of(table)
    require_seats(sizes, visited)
    require_seat(sizes, seat)
    return sizes


def _seen(visited, seat):
    """Return a dict of the seats that count as visited."""
    seen = {other: True for other in visited}
    seen[seat] = True
    return seen


def _unvisited(sizes, visited, seat):
    """Return the unvisited seats, ascending."""
    seen = _seen(visited, seat)
    return [other for other in all_seats(sizes) if other not in seen]


def _most_kept(sums, start, prime, modulus):
    """Return how often these sums have one residue other than that of the start, at most, and the residue."""
    tally = [0] * modulus
    for total in sums:
        tally[total % modulus] += 1
    # For any other residue a smaller modulus keeps the same seats, and more.
    residues = [(start + part * (modulus // prime)) % modulus for part in range(1, prime)]
    best = max(residues, key=lambda residue: tally[residue])
    return (tally[best], best)


def _is_witness_off(sizes, responder, seat):
    """Tell whether the value is a witness whose residue is not the value of the seat."""
    return is_witness(sizes, responder) and not has_residue(responder, seat)


def _toured(sizes, seat, responder, limit):
    grid = Grid(sizes)
    current = seat
    moves = []
    seats = [current]
    rest = list(range(len(grid.codes)))
    rest.remove(grid.index_of(current))
    while rest:
        spread = Spread(grid, rest)
        if spread.number_of(grid.index_of(current)) is None:
            return (moves, seats, "end")
        # Each call leads to a smaller number, whatever the answer: so the unvisited seats stay the targets.
        call = spread.call_from(grid.index_of(current))
        while call is not None:
            if len(moves) == limit:
                return (moves, seats, "open")
            direction = _answered(responder, len(moves), current, call)
            moves.append((call, direction))
            current = stepped(sizes, current, call, direction)
            call = spread.call_from(grid.index_of(current))
        seats.append(current)
        rest.remove(grid.index_of(current))
    return (moves, seats, "complete")


def _answered(responder, turn, seat, call):
    """Return the direction that a witness or a list of directions answers."""
    if isinstance(responder, tuple):
        return direction_off(responder, seat, call)
    return responder[turn % len(responder)]


def _pairs_of_moves(sizes, seats, bits):
    """Return, for each seat, the sets of the two moves of all calls, as bits."""
    found = []
    for seat in seats:
        pairs = []
        for call in seats:
            forward, backward = both_moves(sizes, seat, call)
            pairs.append(bits[forward] | bits[backward])
        found.append(sorted(set(pairs)))
    return found


def _more_by_search(pairs, start):
    """Return how many more seats the caller can visit from each seat, if the seats of this set are visited."""
    more = {}
    for seen in range((1 << len(pairs)) - 1, start - 1, -1):
        # Each set comes behind the larger ones that a visit makes of it.
        if seen & start == start:
            more[seen] = _more_from(pairs, more, seen)
    return more[start]


def _more_from(pairs, more, seen):
    """Return, for each visited seat, how many more seats the caller can visit from there."""
    # What it is worth to get to an unvisited seat: this seat, and what can be had from there.
    gains = [0] * len(pairs)
    for at in range(len(pairs)):
        if seen >> at & 1 == 0:
            gains[at] = 1 + more[seen | 1 << at][at]
    best = [0] * len(pairs)
    held = 0
    for gain in range(max(gains), 0, -1):
        for at, other in enumerate(gains):
            if other == gain:
                held |= 1 << at
        held = _with_calls_into(pairs, seen, held)
        for at in range(len(pairs)):
            if best[at] == 0 and held >> at & 1 == 1:
                best[at] = gain
    return best


def _with_calls_into(pairs, seen, held):
    """Return the held seats and the visited seats from which the caller can get to one, whatever the answers."""
    grown = True
    while grown:
        grown = False
        for at, sets in enumerate(pairs):
            # The seats that are left to look at are visited and not held yet.
            if (seen & ~held) >> at & 1 == 1 and any([pair & held == pair for pair in sets]):
                held |= 1 << at
                grown = True
    return held
