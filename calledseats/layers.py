"""The least number of calls from each seat of a small table, and plans for the caller."""

from calledseats.checks import is_call, is_seat, require_seat, require_targets
from calledseats.errors import InvalidWitness
from calledseats.spread import Grid, spread_from
from calledseats.tables import all_seats, both_moves, require_small, sizes_of


def min_calls(table, targets, seat):
    """Return the least number of calls from the seat, None if no number suffices."""
    spread, at = _spread_for_seat(table, targets, seat)
    return spread.number_of(at)


def layers(table, targets):
    """Return the lists of all seats with the numbers 0, 1, 2 and so on."""
    rows = _spread_for_all(table, targets).all_rows()
    seats = all_seats(table.sizes())
    return [[seats[at] for at in row] for row in rows]


def best_call(table, targets, seat):
    """Return a call whose moves need fewer calls, None for targets and unreachable seats."""
    spread, at = _spread_for_seat(table, targets, seat)
    return spread.call_from(at)


def check_plan(table, targets, plan):
    """Raise InvalidWitness unless all entries of the plan are valid."""
    plan_depths(table, targets, plan)


def plan_depths(table, targets, plan):
    """Return (seat, depth) for each entry of the plan."""
    sizes = sizes_of(table)
    require_targets(sizes, targets)
    if not isinstance(plan, list):
        raise InvalidWitness(-1)
    depths = {target: 0 for target in targets}
    rows = []
    for index, entry in enumerate(plan):
        depth = _depth_of(sizes, depths, entry)
        if depth is None:
            raise InvalidWitness(index)
        depths[entry[0]] = depth
        rows.append((entry[0], depth))
    return rows


def make_plan(table, targets):
    """Return a plan with all reachable seats, in which no depth can be less."""
    spread = _spread_for_all(table, targets)
    rows = spread.all_rows()
    seats = all_seats(table.sizes())
    return [(seats[at], spread.call_from(at)) for row in rows[1:] for at in row]


def _spread_for_all(table, targets):
    sizes = sizes_of(table)
    require_targets(sizes, targets)
    require_small(table)
    return spread_from(Grid(sizes), targets)


def _spread_for_seat(table, targets, seat):
    """Return the spread from the targets, and the index of the seat."""
    sizes = sizes_of(table)
    require_targets(sizes, targets)
    require_seat(sizes, seat)
    require_small(table)
    grid = Grid(sizes)
    return (spread_from(grid, targets), grid.index_of(seat))


def _depth_of(sizes, depths, entry):
    """Return the depth of an entry behind seats with these depths, None if it is not valid."""
    if not isinstance(entry, tuple) or len(entry) != 2:
        return None
    seat, call = entry
    if not is_seat(sizes, seat) or not is_call(sizes, call) or seat in depths:
        return None
    forward, backward = both_moves(sizes, seat, call)
    ahead = depths.get(forward)
    behind = depths.get(backward)
    if ahead is None or behind is None:
        return None
    return 1 + max(ahead, behind)
