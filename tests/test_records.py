"""Stage 5: recorded games, right arguments."""

import random
import unittest
from copy import deepcopy
from itertools import permutations
from math import gcd

from calledseats.layers import best_call, min_calls
from calledseats.players import Caller, Responder, avoiding_direction, play
from calledseats.records import Record, consistent_witnesses
from calledseats.tables import Table
from tests.support import HUGE, all_seats, all_witnesses, assert_error, brute_numbers, minus, plain_value, plus
from tests.support import random_call, random_moves, target_choices, walked

SMALL = [[1], [2], [3], [4], [5], [6], [7], [8], [9], [12], [15], [2, 2], [3, 2], [3, 3], [4, 3], [2, 3, 2], [1, 5, 1],
         [3, 1, 3], [1, 2, 3, 2]]
METHODS = ("seats", "calls_to_target", "losses", "first_mistake")
INFINITE = 10 ** 9


def plain_calls_to_target(targets, seats):
    for at, seat in enumerate(seats):
        if seat in targets:
            return at
    return None


def plain_losses(sizes, numbers, seats, moves, calls):
    """The losses by the words of [5.4]."""
    found = []
    for at, (call, _) in enumerate(moves if calls is None else moves[:calls]):
        before = numbers.get(seats[at], INFINITE)
        after = numbers.get(seats[at + 1], INFINITE)
        moved = (plus(sizes, seats[at], call), minus(sizes, seats[at], call))
        worst = max(numbers.get(move, INFINITE) for move in moved)
        if before == INFINITE:
            caller_loss = 0
        elif worst == INFINITE:
            caller_loss = None
        else:
            caller_loss = worst - (before - 1)
        if worst == INFINITE and after == INFINITE:
            responder_loss = 0
        elif worst == INFINITE:
            responder_loss = None
        else:
            responder_loss = worst - after
        found.append((caller_loss, responder_loss))
    return found


def plain_mistake(losses):
    for at, (caller_loss, responder_loss) in enumerate(losses):
        if (caller_loss, responder_loss) != (0, 0):
            return (at, "responder" if caller_loss == 0 else "caller")
    return None


def plain_results(sizes, targets, seat, moves, numbers):
    """What the four methods of a record return, by the words of the document."""
    seats = walked(sizes, seat, moves)
    calls = plain_calls_to_target(targets, seats)
    losses = plain_losses(sizes, numbers, seats, list(moves), calls)
    return {"seats": seats, "calls_to_target": calls, "losses": losses, "first_mistake": plain_mistake(losses)}


def biased_moves(chance, sizes, targets, seat, many):
    """Moves in which both players are often right, so that games of all kinds occur."""
    table = Table(sizes)
    caller, responder = Caller(table, targets, "layers"), Responder(table, targets, "layers")
    moves, current = [], seat
    for _ in range(many):
        call = caller.next_call(current) if chance.random() < 0.6 else random_call(chance, sizes)
        direction = responder.answer(current, call)
        if chance.random() < 0.4:
            direction = chance.choice(("forward", "backward"))
        moves.append((call, direction))
        current = table.step(current, call, direction)
    return moves


class RecordTest(unittest.TestCase):

    def some_games(self, seed):
        chance = random.Random(seed)
        for sizes in SMALL:
            for targets in target_choices(sizes, chance)[::3]:
                numbers = brute_numbers(sizes, targets)
                seats = all_seats(sizes)
                for seat in chance.sample(seats, min(6, len(seats))):
                    for many in (0, 1, 2, 5, 12):
                        moves = biased_moves(chance, sizes, targets, seat, many)
                        yield chance, sizes, targets, seat, moves, numbers

    def test_small_tables(self):
        kinds = set()
        for _, sizes, targets, seat, moves, numbers in self.some_games(1):
            expected = plain_results(sizes, targets, seat, moves, numbers)
            kinds.update(expected["losses"])
            for given in (moves, tuple(moves)):
                record = Record(Table(sizes), targets, seat, given)
                for name in METHODS:
                    made = getattr(record, name)()
                    self.assertEqual(made, expected[name])
                    self.assertIs(type(made), type(expected[name]))
            for losses in expected["losses"]:
                for loss in losses:
                    self.assertTrue(loss is None or loss >= 0)
        for kind in ((0, 0), (1, 0), (0, 1), (0, None), (None, 0), (2, 1)):
            self.assertIn(kind, kinds)

    def test_any_order_and_twice_after_changes(self):
        orders = list(permutations(METHODS))
        for at, (_, sizes, targets, seat, moves, numbers) in enumerate(self.some_games(2)):
            expected = plain_results(sizes, targets, seat, moves, numbers)
            given_targets, given_moves = list(targets), list(moves)
            record = Record(Table(sizes), given_targets, seat, given_moves)
            self.assertEqual((given_targets, given_moves), (list(targets), list(moves)))
            given_targets.clear()
            given_targets.append(seat)
            given_moves[:1] = []
            given_moves.append(None)
            for name in orders[at % len(orders)] * 2:
                made = getattr(record, name)()
                self.assertEqual(made, expected[name])
                if isinstance(made, list):
                    made.append("x")
                    made.reverse()

    def test_known_losses(self):
        table = Table([6])
        # On this table 0 needs no call, 3 needs one, and the others are out of reach.
        for seat, move, losses, mistake in (
                ((3,), ((1,), "forward"), (None, 0), (0, "caller")),
                ((3,), ((3,), "forward"), (0, 0), None),
                ((3,), ((0,), "backward"), (1, 0), (0, "caller")),
                ((1,), ((1,), "forward"), (0, 0), None),
                ((1,), ((1,), "backward"), (0, None), (0, "responder")),
                ((1,), ((2,), "forward"), (0, None), (0, "responder")),
                ((1,), ((-2,), "forward"), (0, 0), None),
                ((4,), ((1,), "backward"), (0, None), (0, "responder"))):
            record = Record(table, [(0,)], seat, [move])
            self.assertEqual(record.losses(), [losses])
            self.assertEqual(record.first_mistake(), mistake)
        self.assertEqual(Record(Table([3]), [(0,), (1,)], (2,), [((1,), "forward")]).losses(), [(0, 0)])

    def test_infinite_losses(self):
        # The seats 0, 3, 6 and 9 are in reach; the caller leaves them, the responder lets the walker back.
        record = Record(Table([12]), [(0,), (3,)], (6,), [((1,), "forward"), ((2,), "forward"), ((2,), "backward")])
        self.assertEqual(record.losses(), [(None, 0), (0, None), (None, 0)])
        self.assertEqual(record.first_mistake(), (0, "caller"))
        record = Record(Table([12]), [(0,)], (1,), [((4,), "forward"), ((2,), "forward"), ((7,), "forward")])
        self.assertEqual(record.losses(), [(0, 0), (0, 0), (0, 0)])
        self.assertIsNone(record.first_mistake())
        record = Record(Table([9]), [(0,), (3,)], (6,), [((2,), "backward"), ((4,), "backward")])
        self.assertEqual(record.seats(), [(6,), (4,), (0,)])
        self.assertEqual(record.losses(), [(None, 0), (0, None)])

    def test_moves_after_a_target(self):
        moves = [((1,), "backward"), ((1,), "backward"), ((1,), "forward"), ((3,), "forward")]
        record = Record(Table([6]), [(0,), (1,)], (2,), moves)
        self.assertEqual(record.seats(), [(2,), (1,), (0,), (1,), (4,)])
        self.assertEqual(record.calls_to_target(), 1)
        self.assertEqual(len(record.losses()), 1)
        record = Record(Table([6]), [(0,), (1,)], (1,), moves)
        self.assertEqual(record.calls_to_target(), 0)
        self.assertEqual(record.losses(), [])
        self.assertIsNone(record.first_mistake())
        self.assertEqual(len(record.seats()), 5)

    def test_a_thousand_moves(self):
        chance = random.Random(3)
        for sizes, targets in (([300], [(0,), (7,)]), ([17, 17], [(0, 0)]), ([2], [(0,)]), ([81], [(0,)]),
                               ([4, 5, 5, 3], [(0, 0, 0, 0), (1, 1, 1, 1)])):
            numbers = brute_numbers(sizes, targets)
            for start in (1, 2):
                seat = (start % sizes[0],) + (0,) * (len(sizes) - 1)
                moves = random_moves(chance, sizes, 1000)
                record = Record(Table(sizes), targets, seat, moves)
                expected = plain_results(sizes, targets, seat, moves, numbers)
                for name in METHODS + METHODS:
                    self.assertEqual(getattr(record, name)(), expected[name])

    def test_a_thousand_moves_off_the_targets(self):
        chance = random.Random(4)
        for sizes, witness in (([300], (3, (1,), 0)), ([15, 15], (5, (1, 1), 0)), ([297], (27, (1,), 0))):
            table, zero = Table(sizes), (0,) * len(sizes)
            numbers = brute_numbers(sizes, [zero])
            current = seat = (1,) + zero[1:]
            moves = []
            for _ in range(1000):
                call = random_call(chance, sizes)
                moves.append((call, avoiding_direction(table, witness, current, call)))
                current = table.step(current, *moves[-1])
            record = Record(table, [zero], seat, moves)
            expected = plain_results(sizes, [zero], seat, moves, numbers)
            self.assertIsNone(record.calls_to_target())
            self.assertEqual(len(record.losses()), 1000)
            for name in METHODS:
                self.assertEqual(getattr(record, name)(), expected[name])

    def test_large_tables(self):
        chance = random.Random(5)
        for sizes in ([301], [7, 43], [2, 151], [10 ** 30], [3, 10 ** 20, 1, 7]):
            zero = (0,) * len(sizes)
            for many in (0, 1, 30):
                moves = random_moves(chance, sizes, many)
                record = Record(Table(sizes), [zero], zero, moves)
                for _ in range(2):
                    self.assertEqual(record.seats(), walked(sizes, zero, moves))
                    assert_error(self, "TooLarge", 300, record.losses)
                    self.assertEqual(record.calls_to_target(), 0)
                    assert_error(self, "TooLarge", 300, record.first_mistake)
        record = Record(Table([HUGE]), [(5,)], (4,), [((HUGE + 2,), "forward"), ((-HUGE - 1,), "forward")])
        self.assertTrue(record.seats() == [(4,), (6,), (5,)])
        self.assertEqual(record.calls_to_target(), 2)

    def test_keywords(self):
        moves = [((1,), "forward"), ((-7,), "backward")]
        record = Record(moves=moves, seat=(1,), targets=((0,),), table=Table((4,)))
        self.assertEqual(record.seats(), [(1,), (2,), (1,)])
        self.assertEqual(consistent_witnesses(moves=moves, seat=(1,), table=Table([4])), [])
        self.assertEqual(consistent_witnesses(moves=tuple(moves[:1]), seat=(1,), table=Table((3,))),
                         consistent_witnesses(Table([3]), (1,), moves[:1]))


class FactsTest(unittest.TestCase):

    def test_the_balance_of_a_game(self):
        reached = 0
        for _, sizes, targets, seat, moves, numbers in RecordTest().some_games(6):
            record = Record(Table(sizes), targets, seat, moves)
            losses = record.losses()
            calls = record.calls_to_target()
            if calls is None or any(None in pair for pair in losses):
                continue
            reached += 1
            balance = sum(pair[0] for pair in losses) - sum(pair[1] for pair in losses)
            self.assertEqual(calls, min_calls(Table(sizes), targets, seat) + balance)
        self.assertGreater(reached, 500)

    def test_players_without_losses(self):
        for chance, sizes, targets, seat, moves, numbers in RecordTest().some_games(7):
            record = Record(Table(sizes), targets, seat, moves)
            losses, calls = record.losses(), record.calls_to_target()
            number = numbers.get(seat, INFINITE)
            if all(pair[0] == 0 for pair in losses) and number <= len(moves):
                self.assertIsNotNone(calls)
                self.assertLessEqual(calls, number)
            if all(pair[1] == 0 for pair in losses):
                self.assertGreaterEqual(INFINITE if calls is None else calls, min(number, INFINITE))

    def test_players_with_layers_lose_nothing(self):
        chance = random.Random(8)
        for sizes in SMALL:
            for targets in target_choices(sizes, chance)[::3]:
                table = Table(sizes)
                for seat in all_seats(sizes):
                    caller, responder = Caller(table, targets, "layers"), Responder(table, targets, "layers")
                    moves, seats, _ = play(table, targets, seat, caller, responder, 9)
                    record = Record(table, targets, seat, moves)
                    self.assertEqual(record.seats(), seats)
                    self.assertIsNone(record.first_mistake())
                    self.assertEqual(record.losses(), [(0, 0)] * len(moves))
                    call = best_call(table, targets, seat)
                    if call is not None:
                        for direction in ("forward", "backward"):
                            loss = Record(table, targets, seat, [(call, direction)]).losses()
                            self.assertEqual(loss[0][0], 0)


def plain_is_canonical(witness):
    modulus, weights, _ = witness
    if gcd(modulus, *weights) != 1:
        return False
    products = [tuple(factor * weight % modulus for weight in weights)
                for factor in range(1, modulus) if gcd(factor, modulus) == 1]
    return weights == min(products)


def plain_explains(sizes, witness, seat, moves):
    current = seat
    if plain_value(witness, current) == witness[2]:
        return False
    for call, direction in moves:
        if avoiding_direction(Table(sizes), witness, current, call) != direction:
            return False
        current = (plus if direction == "forward" else minus)(sizes, current, call)
    return True


class ConsistentWitnessesTest(unittest.TestCase):

    def check(self, sizes, witnesses, seat, moves):
        """Compare with the canonical ones among all witnesses with all odd moduli."""
        expected = sorted(witness for witness in witnesses if plain_explains(sizes, witness, seat, moves))
        made = consistent_witnesses(Table(sizes), seat, moves)
        self.assertIs(type(made), list)
        self.assertEqual(made, expected)
        for witness in made:
            self.assertIs(type(witness), tuple)
            self.assertIs(type(witness[1]), tuple)
        return len(made)

    def test_small_tables(self):
        chance = random.Random(9)
        counts = set()
        more = [[10], [18], [21], [9, 3], [5, 3], [5, 5], [3, 3, 3], [6, 9], [1, 15, 1], [16], [1, 1, 1, 1]]
        for sizes in SMALL + more:
            seats = all_seats(sizes)
            # Larger moduli than the number of seats are never canonical; some are tried all the same.
            top = len(seats) + (7 if len(seats) < 20 else 2)
            witnesses = [witness for witness in all_witnesses(sizes, range(3, top, 2)) if plain_is_canonical(witness)]
            for many in (0, 0, 1, 1, 2, 2, 3, 4, 6, 10):
                seat = chance.choice(seats)
                counts.add(self.check(sizes, witnesses, seat, random_moves(chance, sizes, many)))
                if witnesses:
                    moves = self.moves_of(chance, sizes, chance.choice(witnesses), seat, many)
                    counts.add(self.check(sizes, witnesses, seat, moves))
        self.assertTrue({0, 1, 2, 3} <= counts)

    def moves_of(self, chance, sizes, witness, seat, many):
        """Moves with the directions of a responder with this witness, as long as it has one."""
        moves, current = [], seat
        for _ in range(many):
            call = random_call(chance, sizes)
            direction = "forward"
            if plain_value(witness, current) != witness[2]:
                direction = avoiding_direction(Table(sizes), witness, current, call)
            moves.append((call, direction))
            current = Table(sizes).step(current, call, direction)
        return moves

    def test_a_responder_is_recognised(self):
        chance = random.Random(10)
        for sizes, witness in (([9], (9, (1,), 4)), ([15], (5, (1,), 0)), ([6, 9], (9, (0, 1), 8)),
                               ([3, 3], (3, (1, 2), 1)), ([45], (45, (1,), 7)), ([300], (75, (1,), 74)),
                               ([17, 17], (17, (1, 5), 3)), ([5, 3, 5, 4], (15, (3, 5, 6, 0), 11))):
            table, zero = Table(sizes), (0,) * len(sizes)
            self.assertTrue(plain_is_canonical(witness))
            start = zero if witness[2] else (1,) + zero[1:]
            moves = self.moves_of(chance, sizes, witness, start, 1000)
            self.assertEqual(consistent_witnesses(table, start, moves), [witness])
            for many in (1, 2, 3, 5, 8, 13):
                made = consistent_witnesses(table, start, moves[:many])
                self.assertIn(witness, made)
                self.assertEqual(made, sorted(made))
                for other in made:
                    self.assertTrue(plain_is_canonical(other))
                    self.assertTrue(plain_explains(sizes, other, start, moves[:many]))

    def test_the_walker_never_sits_on_the_residue(self):
        chance = random.Random(11)
        for sizes in ([9], [15], [3, 3], [5, 6], [45]):
            for _ in range(60):
                seat = chance.choice(all_seats(sizes))
                moves = random_moves(chance, sizes, chance.randint(0, 4))
                for witness in consistent_witnesses(Table(sizes), seat, moves):
                    for passed in walked(sizes, seat, moves):
                        self.assertNotEqual(plain_value(witness, passed), witness[2])

    def test_number_of_canonical_witnesses(self):
        # Without moves, each choice of modulus and weights leaves all residues but one.
        for sizes, expected in (([1], {}), ([256], {}), ([2, 4, 8], {}), ([3], {3: 1}), ([9], {3: 1, 9: 1}),
                                ([3, 3], {3: 4}), ([15], {3: 1, 5: 1, 15: 1}),
                                ([300], {3: 1, 5: 1, 15: 1, 25: 1, 75: 1}),
                                ([17, 17], {17: 18}), ([3, 3, 3, 3], {3: 40}), ([9, 3], {3: 4, 9: 3}),
                                ([15, 15], {3: 4, 5: 6, 15: 24}), ([4, 3, 5, 5], {3: 1, 5: 6, 15: 6})):
            made = consistent_witnesses(Table(sizes), tuple(size - 1 for size in sizes), [])
            self.assertEqual(made, sorted(made))
            self.assertEqual(len(set(made)), len(made))
            for modulus in {witness[0] for witness in made} | set(expected):
                count = len([witness for witness in made if witness[0] == modulus])
                self.assertEqual(count, expected[modulus] * (modulus - 1))

    def test_too_large(self):
        for sizes in ([301], [7, 43], [2, 151], [1, 3, 101, 1], [10 ** 30], [HUGE]):
            zero = (0,) * len(sizes)
            assert_error(self, "TooLarge", 300, consistent_witnesses, Table(sizes), zero, [])
            assert_error(self, "TooLarge", 300, consistent_witnesses, Table(sizes), zero, [(zero, "forward")])

    def test_arguments_are_not_modified_and_the_list_is_new(self):
        chance = random.Random(12)
        for sizes in ([9], [3, 3], [15]):
            moves = random_moves(chance, sizes, 1)
            kept = deepcopy(moves)
            made = consistent_witnesses(Table(sizes), (0,) * len(sizes), moves)
            copied = list(made)
            made.append("x")
            made.reverse()
            self.assertEqual(moves, kept)
            self.assertEqual(consistent_witnesses(Table(tuple(sizes)), (0,) * len(sizes), tuple(moves)), copied)
            moves.append((kept[0][0], "backward"))
            self.assertEqual(consistent_witnesses(Table(sizes), (0,) * len(sizes), kept), copied)


if __name__ == "__main__":
    unittest.main()
