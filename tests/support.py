"""Values and helpers that the tests share. Everything here follows from the document alone."""

from itertools import product
from math import gcd

from calledseats import errors

ATTRIBUTES = {
    "InvalidTable": "rings",
    "InvalidTargets": "index",
    "InvalidSeat": "seat",
    "InvalidCall": "call",
    "InvalidDirection": "direction",
    "InvalidWitness": "index",
    "InvalidNumber": "name",
    "InvalidMoves": "index",
    "InvalidStrategy": "strategy",
    "Mismatch": "name",
    "TooLarge": "limit",
}

HUGE = 10 ** 6000 + 7


class AlwaysEqual:
    """Equal to everything, and unhashable."""

    def __eq__(self, other):
        return True


class Untouchable:
    """Fails at whatever is done with it, except to pass it on and to ask for its class."""

    def _fail(self, *args):
        raise RuntimeError("touched")

    __eq__ = __ne__ = __lt__ = __le__ = __gt__ = __ge__ = __hash__ = _fail
    __bool__ = __len__ = __iter__ = __getitem__ = __contains__ = _fail
    __repr__ = __str__ = __format__ = __int__ = __index__ = __mod__ = __rmod__ = _fail


def strange_values():
    """Values that are no integer, table, list, tuple or string, one of each kind."""
    return [
        None, True, False, 0.0, 1.5, float("nan"), 1j, b"", b"\x00", bytearray(b"\x01"), {}, {0: 0},
        {(0,): 1}, set(), {(0,)}, frozenset({1}), range(0), range(3), iter([1]), (x for x in [1]), object(), len,
        int, tuple, ValueError("no"), AlwaysEqual(), Untouchable(),
    ]


def not_integers():
    """Values of every kind that are not integers."""
    return strange_values() + ["", "0", "1", "forward", (), (0,), (1,), [], [0], [1], ((0,),)]


def not_tables():
    """Values of every kind that are not tables."""
    return not_integers() + [0, 6, HUGE, -HUGE, [6], (6,), [4, 3], (4, 3)]


def not_calls(width):
    """Values that are not a call for a table with so many rings."""
    wrong = not_integers_as_wholes(width)
    for at in range(width):
        for part in not_integers():
            wrong.append((0,) * at + (part,) + (0,) * (width - at - 1))
    return wrong


def not_seats(sizes):
    """Values that are not seats of the table."""
    wrong = not_calls(len(sizes))
    for at, size in enumerate(sizes):
        for place in (-1, -size, size, size + 1, HUGE + size, -HUGE):
            wrong.append((0,) * at + (place,) + (0,) * (len(sizes) - at - 1))
    wrong.append(tuple(sizes))
    return wrong


def not_integers_as_wholes(width):
    """Values of another kind or length than a tuple of so many integers."""
    wrong = strange_values() + [0, 1, -1, HUGE, -HUGE, "", "0", "forward"]
    wrong += [(0,) * other for other in range(width + 3) if other != width]
    wrong += [[0] * other for other in range(width + 2)]
    wrong += [((0,) * width,), ([0] * width,), "0" * width, b"\x00" * width, dict.fromkeys(range(width), 0)]
    return wrong


def not_directions():
    """Values that are not directions."""
    return strange_values() + [
        0, 1, -1, HUGE, "", "f", "b", "back", "Forward", "BACKWARD", "forward ", " backward", "forwards",
        "forwardbackward", b"forward", ["forward"], ("forward",), ["forward", "backward"], {"forward": 1},
        {"backward"}, (), [],
    ]


def not_target_lists():
    """Values that raise InvalidTargets(-1) as targets of every table."""
    return strange_values() + [0, 1, -1, HUGE, "", "0", "forward", [], ()]


def not_witnesses():
    """Values that are no witness for the table [6, 9], where (3, (1, 2), 0) and (9, (3, 1), 0) are."""
    good = (3, (1, 2), 0)
    wrong = strange_values() + [0, 3, HUGE, "", "3", list(good), (), (3,), (3, (1, 2)), (3, 1, 2, 0), (good,)]
    wrong += [good + (0,), (0,) + good, good + good]
    wrong += [(modulus, (1, 2), 0) for modulus in not_integers() + [-9, -3, -1, 0, 1, 2, 4, 6, HUGE - 7, -HUGE]]
    wrong += [(modulus, (0, 0), 0) for modulus in not_integers() + [-9, -3, -1, 0, 1, 2, 4, 6, HUGE - 7, -HUGE]]
    wrong += [(3, weights, 0) for weights in not_seats((3, 3))]
    wrong += [(3, (1, 2), residue) for residue in not_integers() + [-3, -1, 3, 4, HUGE, -HUGE]]
    # These weights are no multiples of what the size of a ring asks for.
    wrong += [(5, (1, 0), 0), (5, (0, 1), 0), (9, (1, 0), 0), (9, (0, 9), 0), (9, (3, 9), 0), (27, (9, 1), 0)]
    wrong += [(15, (1, 5), 0), (15, (5, 3), 0), (7, (0, 1), 3), (HUGE, (0, 1), 0)]
    return wrong


def not_moves(width):
    """Values that are not a move for a table with so many rings."""
    call = (1,) * width
    good = (call, "forward")
    wrong = strange_values() + [0, 1, HUGE, "", "forward", [], [call], list(good), (), (call,), ("forward",), (good,)]
    wrong += [good + ("forward",), good + (None,), ("forward", call), (call, call), {call: "forward"}, call]
    wrong += [(other, "forward") for other in not_calls(width)]
    wrong += [(call, direction) for direction in not_directions()]
    return wrong


def not_move_lists():
    """Values that raise InvalidMoves(-1) for every table."""
    return strange_values() + [0, 1, -1, HUGE, "", "0", "forward"]


def not_limits():
    """Values that are not an integer >= 0."""
    return not_integers() + [-1, -300, -HUGE]


def not_strategies():
    """Values that are a strategy of no player for the table [6, 9] with the target (0, 0)."""
    wrong = not_witnesses()
    wrong += ["Layers", "layer", "layers ", " layers", "LAYERS", "forward", "backward", b"layers", ["layers"]]
    wrong += [("layers",), {"layers": 1}, {"layers"}, ["layers", "forward"], [[]], [()], [[(0, 0)]], [None], [True]]
    wrong += [("forward",), ("forward", "backward"), {"forward": 1}, {"forward"}, iter(["forward"]), b"forward"]
    wrong += [((1, 2),), (1, 2), {(1, 2): 1}, {(1, 2)}, iter([(1, 2)]), [1, 2], [["forward"]]]
    for entry in not_directions():
        if not isinstance(entry, tuple) or len(entry) != 2:
            wrong += [["forward", entry], [entry, "backward"], [(1, 2), entry], [entry, (1, 2)]]
    wrong += [["forward", (1, 2)], [(1, 2), "forward"], [(1, 2), (1,)], [(1, 2), (1, 2, 3)], [(1, True)], [[1, 2]]]
    return wrong


def assert_error(case, name, stored, function, *args, **keywords):
    """Assert that the call raises exactly this error of the package with exactly this value."""
    expected = getattr(errors, name)
    try:
        function(*args, **keywords)
    except Exception as error:
        case.assertIs(error.__class__, expected)
        held = getattr(error, ATTRIBUTES[name])
        if ATTRIBUTES[name] in ("index", "limit", "name"):
            case.assertIs(held.__class__, stored.__class__)
            case.assertEqual(held, stored)
        else:
            case.assertIs(held, stored)
        return
    case.fail("no " + name)


def all_seats(sizes):
    """Return all seats in ascending order."""
    return list(product(*[range(size) for size in sizes]))


def plus(sizes, seat, other):
    return tuple((a + b) % size for a, b, size in zip(seat, other, sizes))


def minus(sizes, seat, other):
    return tuple((a - b) % size for a, b, size in zip(seat, other, sizes))


def brute_order(sizes, seat):
    """Add copies of the seat until the sum is the zero seat."""
    zero = (0,) * len(sizes)
    total, copies = seat, 1
    while total != zero:
        total, copies = plus(sizes, total, seat), copies + 1
    return copies


def brute_reachable(sizes, targets):
    """Return the set of seats from which the caller succeeds, by trying every call."""
    seats = all_seats(sizes)
    found = set(targets)
    while True:
        new = [seat for seat in seats if seat not in found and has_call_into(sizes, seat, found)]
        if not new:
            return found
        found.update(new)


def has_call_into(sizes, seat, found):
    """Tell whether both moves of some call lead into the found seats."""
    for goal in found:
        if minus(sizes, seat, minus(sizes, goal, seat)) in found:
            return True
    return False


def brute_free_shifts(sizes, targets):
    """Return the set of all sums of the terms that the document names."""
    seats = all_seats(sizes)
    terms = [minus(sizes, one, other) for one in targets for other in targets]
    terms += [seat for seat in seats if is_power_of_two(brute_order(sizes, seat))]
    zero = (0,) * len(sizes)
    found, waiting = {zero}, [zero]
    while waiting:
        seat = waiting.pop()
        for term in terms:
            total = plus(sizes, seat, term)
            if total not in found:
                found.add(total)
                waiting.append(total)
    return found


def is_power_of_two(number):
    while number % 2 == 0:
        number //= 2
    return number == 1


def odd_part(size):
    while size % 2 == 0:
        size //= 2
    return size


def all_witnesses(sizes, moduli):
    """Return every witness for the table with one of these moduli."""
    found = []
    for modulus in moduli:
        choices = [range(0, modulus, modulus // gcd(modulus, size)) for size in sizes]
        for weights in product(*choices):
            found += [(modulus, weights, residue) for residue in range(modulus)]
    return found


def plain_value(witness, seat):
    modulus, weights, _ = witness
    total = 0
    for weight, place in zip(weights, seat):
        total += weight * place
    return total % modulus


def assert_witness(case, sizes, targets, seat, witness):
    """Assert that the witness has the stated form and shows that the seat is unreachable."""
    case.assertIs(witness.__class__, tuple)
    modulus, weights, residue = witness
    case.assertIs(weights.__class__, tuple)
    case.assertEqual(len(weights), len(sizes))
    for number in (modulus, residue) + weights:
        case.assertIs(number.__class__, int)
    case.assertTrue(modulus >= 3 and modulus % 2 == 1)
    for weight, size in zip(weights, sizes):
        case.assertTrue(0 <= weight < modulus and weight * size % modulus == 0)
    case.assertTrue(0 <= residue < modulus)
    for target in targets:
        case.assertTrue(plain_value(witness, target) == residue)
    case.assertTrue(plain_value(witness, seat) != residue)


def brute_numbers(sizes, targets):
    """Return the numbers of all reachable seats by the rule of [3.1]: every call is tried from every seat."""
    seats = all_seats(sizes)
    found = {target: 0 for target in targets}
    level = 0
    while True:
        level += 1
        new = [seat for seat in seats if seat not in found and has_tried_call(sizes, seats, seat, found)]
        if not new:
            return found
        found.update({seat: level for seat in new})


def has_tried_call(sizes, seats, seat, found):
    """Tell whether both moves of some call lead into the found seats, trying every call."""
    for call in seats:
        if plus(sizes, seat, call) in found and minus(sizes, seat, call) in found:
            return True
    return False


def assert_reduced(case, sizes, call):
    """Assert that the value is a reduced call."""
    case.assertIs(call.__class__, tuple)
    case.assertEqual(len(call), len(sizes))
    for part, size in zip(call, sizes):
        case.assertIs(part.__class__, int)
        case.assertTrue(0 <= part < size)


def target_choices(sizes, chance):
    """Some target lists: single seats, pairs with the zero seat, and random ones, if the table has so many seats."""
    seats = all_seats(sizes)
    chosen = [[seat] for seat in seats[:4] + seats[-1:]]
    chosen += [[seats[0], seat] for seat in chance.sample(seats[1:], min(8, len(seats) - 1))]
    for many in (2, 3, 4):
        if many <= len(seats):
            chosen += [chance.sample(seats, many) for _ in range(3)]
    return chosen


def random_call(chance, sizes):
    """A call of any sign, near to or far beyond the sizes."""
    far = chance.choice((1, 1, 3, 10 ** 6, 10 ** 30))
    return tuple(chance.randint(-far * size, far * size) for size in sizes)


def random_moves(chance, sizes, many):
    return [(random_call(chance, sizes), chance.choice(("forward", "backward"))) for _ in range(many)]


def walked(sizes, seat, moves):
    """Return all seats of a game."""
    seats = [seat]
    for call, direction in moves:
        seats.append((plus if direction == "forward" else minus)(sizes, seats[-1], call))
    return seats
