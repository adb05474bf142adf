"""The least number of calls from each seat of a small table, and plans for the caller.

The number of a seat is its least number of calls. Moves a and b belong to one
call from a seat x if and only if a + b is x + x.
"""

from calledseats.checks import is_call, is_seat, require_seat, require_targets
from calledseats.errors import InvalidWitness
from calledseats.tables import all_seats, require_small, sizes_of


def min_calls(table, targets, seat):
    """Return the least number of calls from the seat, None if no number suffices."""
    numbers, _ = _explored_for_seat(table, targets, seat)
    return numbers.get(seat)


def layers(table, targets):
    """Return the lists of all seats with the numbers 0, 1, 2 and so on."""
    numbers, _ = _explored(table, targets)
    rows = []
    for seat, number in numbers.items():
        if number == len(rows):
            rows.append([])
        rows[number].append(seat)
    return rows


def best_call(table, targets, seat):
    """Return a call whose moves need fewer calls, None for targets and unreachable seats."""
    _, calls = _explored_for_seat(table, targets, seat)
    return calls.get(seat)


def check_plan(table, targets, plan):
    """Raise InvalidWitness unless all entries of the plan are valid."""
    plan_depths(table, targets, plan)


def plan_depths(table, targets, plan):
    """Return (seat, depth) for each entry of the plan."""
    require_targets(sizes_of(table), targets)
    if not isinstance(plan, list):
        raise InvalidWitness(-1)
    depths = {target: 0 for target in targets}
    rows = []
    for index, entry in enumerate(plan):
        if not _is_valid_entry(table, depths, entry):
            raise InvalidWitness(index)
        seat, call = entry
        forward, backward = table.moves(seat, call)
        depths[seat] = 1 + max(depths[forward], depths[backward])
        rows.append((seat, depths[seat]))
    return rows


def make_plan(table, targets):
    """Return a plan with all reachable seats, in which no depth can be less."""
    _, calls = _explored(table, targets)
    return list(calls.items())


def explore(sizes, targets):
    """Return the numbers of all reachable seats, and best calls for those that are no targets.

    Both dicts go by ascending numbers, and by ascending seats for each number.
    They do not depend on the order of the targets.
    """
    waiting = _double_codes(sizes)
    numbers = {}
    calls = {}
    sums = {}
    newest = sorted(targets)
    number = 0
    while newest:
        for seat in newest:
            numbers[seat] = number
            del waiting[seat]
        _add_sums(sums, sizes, numbers, newest)
        newest = [seat for seat, codes in waiting.items() if _shared_code(codes, sums) is not None]
        for seat in newest:
            goal = sums[_shared_code(waiting[seat], sums)]
            calls[seat] = _call_between(sizes, seat, goal)
        number += 1
    return numbers, calls


def _explored(table, targets):
    sizes = sizes_of(table)
    require_targets(sizes, targets)
    require_small(table)
    return explore(sizes, targets)


def _explored_for_seat(table, targets, seat):
    sizes = sizes_of(table)
    require_targets(sizes, targets)
    require_seat(sizes, seat)
    require_small(table)
    return explore(sizes, targets)


def _code(sizes, seat):
    """Return an integer for the seat such that adding codes adds seats without a carry."""
    code = 0
    for place, size in zip(seat, sizes):
        # The sum of two places is below twice the size.
        code = code * 2 * size + place
    return code


def _double_codes(sizes):
    """Return, for each seat, all codes that two moves of one call may have as their sum."""
    doubles = {}
    for seat in all_seats(sizes):
        codes = [0]
        for place, size in zip(seat, sizes):
            rest = 2 * place % size
            codes = [code * 2 * size + part for code in codes for part in (rest, rest + size)]
        doubles[seat] = codes
    return doubles


def _add_sums(sums, sizes, numbers, newest):
    """Enter one of two seats under the sum of their codes, for all pairs with a newest seat."""
    known = [_code(sizes, seat) for seat in numbers]
    for seat in newest:
        own = _code(sizes, seat)
        for code in known:
            sums[own + code] = seat


def _shared_code(codes, sums):
    """Return the first code that is the sum of two seats, None if no code is."""
    for code in codes:
        if code in sums:
            return code
    return None


def _call_between(sizes, seat, goal):
    return tuple([(end - place) % size for end, place, size in zip(goal, seat, sizes)])


def _is_valid_entry(table, depths, entry):
    """Tell whether the entry may follow entries with these depths, the targets included."""
    if not isinstance(entry, tuple) or len(entry) != 2:
        return False
    seat, call = entry
    if not is_seat(table.sizes(), seat) or not is_call(table.sizes(), call) or seat in depths:
        return False
    forward, backward = table.moves(seat, call)
    return forward in depths and backward in depths
