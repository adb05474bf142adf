"""Stage 4: players and games, right arguments."""

import random
import unittest
from copy import deepcopy
from itertools import product

from calledseats.layers import best_call, min_calls
from calledseats.players import Caller, Responder, avoiding_direction, play
from calledseats.reach import reach
from calledseats.tables import Table
from tests.support import HUGE, all_seats, all_witnesses, assert_error, assert_reduced, brute_numbers, minus
from tests.support import plain_value, plus, random_call, target_choices, walked

SMALL = [[1], [2], [3], [4], [5], [6], [7], [9], [12], [15], [2, 2], [3, 2], [3, 3], [4, 3], [5, 2], [2, 3, 2],
         [3, 1, 3], [1, 2, 3, 2]]
DIRECTIONS = ("forward", "backward")


def words_of_avoiding(witness, sizes, seat, call):
    return "backward" if plain_value(witness, plus(sizes, seat, call)) == witness[2] else "forward"


def words_of_layers(numbers, sizes, seat, call):
    forward = numbers.get(plus(sizes, seat, call), 10 ** 9)
    backward = numbers.get(minus(sizes, seat, call), 10 ** 9)
    return "backward" if backward > forward else "forward"


def witnesses_for(sizes, targets, moduli):
    """All witnesses with these moduli whose residue is the value of every target."""
    return [witness for witness in all_witnesses(sizes, moduli)
            if all(plain_value(witness, target) == witness[2] for target in targets)]


class AvoidingTest(unittest.TestCase):

    def test_all_witnesses_of_small_tables(self):
        for sizes, moduli in (([1], [3]), ([6], [3, 5, 9]), ([9], [3, 9]), ([15], [3, 5, 15]), ([3, 3], [3]),
                              ([2, 5], [5]), ([3, 1, 2], [3])):
            table = Table(sizes)
            for witness in all_witnesses(sizes, moduli):
                for seat in all_seats(sizes):
                    caught = plain_value(witness, seat) == witness[2]
                    for call in all_seats(sizes):
                        if caught:
                            assert_error(self, "InvalidSeat", seat, avoiding_direction, table, witness, seat, call)
                            continue
                        made = avoiding_direction(table, witness, seat, call)
                        self.assertEqual(made, words_of_avoiding(witness, sizes, seat, call))
                        self.assertNotEqual(plain_value(witness, table.step(seat, call, made)), witness[2])

    def test_calls_of_any_sign_and_magnitude(self):
        chance = random.Random(1)
        for sizes, witness in (([6], (3, (1,), 2)), ([9, 5], (45, (10, 9), 7)), ([12, 1, 7], (21, (14, 0, 9), 0))):
            for _ in range(300):
                seat, call = chance.choice(all_seats(sizes)), random_call(chance, sizes)
                if plain_value(witness, seat) != witness[2]:
                    made = avoiding_direction(Table(sizes), witness, seat, call)
                    self.assertEqual(made, words_of_avoiding(witness, sizes, seat, call))
                    other = avoiding_direction(call=call, seat=seat, witness=witness, table=Table(sizes))
                    self.assertEqual(other, made)

    def test_large_rings(self):
        p = 10 ** 45 + 9
        table, witness = Table([3 * p, 2 * p]), (3 * p, (5, 9), 8)
        self.assertEqual(avoiding_direction(table, witness, (0, 0), (7, -3)), "backward")
        self.assertEqual(avoiding_direction(table, witness, (0, 0), (-7, 3)), "forward")
        self.assertEqual(avoiding_direction(table, witness, (0, 0), (7 + 3 * p * 10 ** 50, 2 * p - 3)), "backward")
        self.assertEqual(avoiding_direction(table, witness, (3 * p - 1, 2 * p - 1), (9 * p + 8, 2 * p - 2)), "backward")
        self.assertEqual(avoiding_direction(table, witness, (3 * p - 1, 2 * p - 1), (8, -3)), "forward")
        self.assertEqual(avoiding_direction(Table([HUGE * 3]), (3, (1,), 1), (HUGE * 3 - 1,), (2 - HUGE * 3,)),
                         "backward")

    def test_zero_weights(self):
        self.assertEqual(avoiding_direction(Table([4]), (3, (0,), 1), (2,), (3,)), "forward")
        seat = (2,)
        assert_error(self, "InvalidSeat", seat, avoiding_direction, Table([4]), (3, (0,), 0), seat, (3,))


class ResponderTest(unittest.TestCase):

    def test_witnesses(self):
        for sizes, targets, moduli in (([6], [(0,)], [3, 9]), ([15], [(0,), (3,)], [3, 5]), ([15], [(1,)], [3, 15]),
                                       ([3, 3], [(0, 1), (1, 2)], [3]), ([9], [(1,), (4,)], [3, 9])):
            table = Table(sizes)
            good = witnesses_for(sizes, targets, moduli)
            for witness in all_witnesses(sizes, moduli):
                if witness not in good:
                    assert_error(self, "InvalidStrategy", witness, Responder, table, targets, witness)
                    continue
                responder = Responder(table, targets, witness)
                for seat in all_seats(sizes):
                    for call in all_seats(sizes):
                        if plain_value(witness, seat) == witness[2]:
                            assert_error(self, "InvalidSeat", seat, responder.answer, seat, call)
                        else:
                            expected = words_of_avoiding(witness, sizes, seat, call)
                            self.assertEqual(responder.answer(seat, call), expected)

    def test_layers(self):
        chance = random.Random(2)
        for sizes in SMALL:
            for targets in target_choices(sizes, chance)[::3]:
                numbers = brute_numbers(sizes, targets)
                responder = Responder(Table(sizes), targets, "layers")
                for seat in all_seats(sizes):
                    for call in all_seats(sizes):
                        expected = words_of_layers(numbers, sizes, seat, call)
                        self.assertEqual(responder.answer(seat, call), expected)
                        far = tuple(part - 3 * 10 ** 30 * size for part, size in zip(call, sizes))
                        self.assertEqual(responder.answer(call=far, seat=seat), expected)

    def test_layers_ties_and_infinity(self):
        responder = Responder(Table([6]), [(0,)], "layers")
        # The seats 0 and 3 are reachable, the others are not.
        self.assertEqual(responder.answer((1,), (1,)), "forward")
        self.assertEqual(responder.answer((1,), (-1,)), "backward")
        self.assertEqual(responder.answer((1,), (2,)), "backward")
        self.assertEqual(responder.answer((1,), (3,)), "forward")
        self.assertEqual(responder.answer((3,), (3,)), "forward")
        self.assertEqual(responder.answer((2,), (0,)), "forward")
        self.assertEqual(responder.answer((0,), (1,)), "forward")
        self.assertEqual(Responder(Table([4]), [(0,)], "layers").answer((3,), (1,)), "backward")
        self.assertEqual(Responder(Table([4]), [(0,)], "layers").answer((3,), (-1,)), "forward")

    def test_lists_are_used_cyclically(self):
        chance = random.Random(3)
        for many in (1, 2, 3, 7):
            listed = [chance.choice(DIRECTIONS) for _ in range(many)]
            responder = Responder(Table([5, 2]), [(0, 0)], listed)
            for turn in range(4 * many + 1):
                seat, call = chance.choice(all_seats([5, 2])), random_call(chance, [5, 2])
                self.assertEqual(responder.answer(seat, call), listed[turn % many])

    def test_a_call_with_an_error_does_not_count(self):
        listed = ["forward", "backward", "backward", "forward", "backward"]
        responder = Responder(Table([5]), [(0,)], listed)
        for turn in range(13):
            for seat, call, name, stored in (((5,), (1,), "InvalidSeat", 0), ((1,), (True,), "InvalidCall", 1),
                                             (None, None, "InvalidSeat", 0), ((1,), None, "InvalidCall", 1)):
                assert_error(self, name, (seat, call)[stored], responder.answer, seat, call)
            self.assertEqual(responder.answer((turn % 5,), (turn,)), listed[turn % 5])

    def test_later_changes_have_no_effect(self):
        listed, targets = ["forward", "backward"], [(0,)]
        responder = Responder(Table([5]), targets, listed)
        other = Responder(Table([3]), targets, "layers")
        listed[0] = "backward"
        listed.append("backward")
        targets[0] = (1,)
        targets.append((2,))
        self.assertEqual([responder.answer((1,), (1,)) for _ in range(4)],
                         ["forward", "backward", "forward", "backward"])
        self.assertEqual(other.answer((1,), (1,)), "forward")
        caller = Caller(Table([5]), [(0,)], [(1,)])
        self.assertEqual(play(Table([5]), [(0,)], (1,), caller, responder, 1)[0], [((1,), "forward")])
        assert_error(self, "Mismatch", "responder", play, Table([5]), [(1,)], (1,), Caller(Table([5]), [(1,)], [(1,)]),
                     responder, 1)
        listed.clear()
        self.assertEqual(responder.answer((1,), (1,)), "forward")

    def test_arguments_are_not_modified(self):
        listed, targets = ["backward"], [(3,), (0,), (1,)]
        Responder(Table([5]), targets, listed).answer((2,), (2,))
        Responder(Table([5]), targets, "layers").answer((2,), (2,))
        Caller(Table([5]), targets, "layers").next_call((2,))
        calls = [(7,), (-1,)]
        Caller(Table([5]), targets, calls).next_call((2,))
        self.assertEqual((listed, targets, calls), (["backward"], [(3,), (0,), (1,)], [(7,), (-1,)]))

    def test_players_do_not_share_their_turns(self):
        listed, calls = ["forward", "backward"], [(1,), (2,)]
        first, second = (Responder(Table([5]), [(0,)], listed) for _ in range(2))
        self.assertEqual([first.answer((1,), (1,)), second.answer((1,), (1,))], ["forward", "forward"])
        one, other = (Caller(Table([5]), [(0,)], calls) for _ in range(2))
        self.assertEqual([one.next_call((1,)), other.next_call((1,)), one.next_call((1,))], [(1,), (1,), (2,)])


class CallerTest(unittest.TestCase):

    def test_layers(self):
        chance = random.Random(4)
        for sizes in SMALL:
            for targets in target_choices(sizes, chance)[::2]:
                numbers = brute_numbers(sizes, targets)
                table = Table(sizes)
                caller = Caller(table, targets, "layers")
                for seat in all_seats(sizes):
                    made = caller.next_call(seat)
                    assert_reduced(self, sizes, made)
                    best = best_call(table, targets, seat)
                    self.assertEqual(made, (0,) * len(sizes) if best is None else best)
                    self.assertEqual(caller.next_call(seat=seat), made)
                    if not numbers.get(seat):
                        self.assertEqual(made, (0,) * len(sizes))

    def test_lists_are_used_cyclically_and_reduced(self):
        chance = random.Random(5)
        for sizes in ([6], [4, 3], [10 ** 30, 1, 7], [2, 3, 5, 10 ** 40]):
            for many in (1, 2, 3, 7):
                listed = [random_call(chance, sizes) for _ in range(many)]
                caller = Caller(Table(sizes), [(0,) * len(sizes)], listed)
                for turn in range(3 * many + 1):
                    seat = tuple(chance.randrange(size) for size in sizes)
                    made = caller.next_call(seat)
                    assert_reduced(self, sizes, made)
                    self.assertEqual(made, plus(sizes, (0,) * len(sizes), listed[turn % many]))

    def test_a_call_with_an_error_does_not_count(self):
        caller = Caller(Table([5]), [(0,)], [(1,), (2,), (3,), (4,), (0,)])
        for turn in range(12):
            for seat in ((5,), None, [1], (True,), (-1,), (0, 0)):
                assert_error(self, "InvalidSeat", seat, caller.next_call, seat)
            self.assertEqual(caller.next_call((0,)), ((turn + 1) % 5,))

    def test_later_changes_have_no_effect(self):
        listed, targets = [(1,), (7,)], [(0,)]
        caller = Caller(Table([5]), targets, listed)
        other = Caller(Table([4]), targets, "layers")
        listed[0] = (3,)
        listed.append((4,))
        targets[0] = (2,)
        targets.append((1,))
        self.assertEqual([caller.next_call((1,)) for _ in range(4)], [(1,), (2,), (1,), (2,)])
        self.assertEqual([other.next_call((2,)), other.next_call((0,))], [(2,), (0,)])
        listed.clear()
        self.assertEqual(caller.next_call((1,)), (1,))
        responder = Responder(Table([5]), [(0,)], ["forward"])
        self.assertEqual(play(Table([5]), [(0,)], (1,), caller, responder, 1)[0], [((1,), "forward")])

    def test_huge_calls(self):
        caller = Caller(Table([6, HUGE]), [(0, 0)], [(HUGE, HUGE + 5), (-HUGE, -1)])
        self.assertTrue(caller.next_call((0, 0)) == (HUGE % 6, 5))
        self.assertTrue(caller.next_call((0, 0)) == (-HUGE % 6, HUGE - 1))


def plain_game(sizes, targets, seat, call_for, direction_for, limit):
    """Play by the words of [4.6], with functions of the turn and the seat."""
    moves, seats = [], [seat]
    while seats[-1] not in targets and len(moves) < limit:
        call = plus(sizes, (0,) * len(sizes), call_for(len(moves), seats[-1]))
        direction = direction_for(len(moves), seats[-1], call)
        moves.append((call, direction))
        seats.append((plus if direction == "forward" else minus)(sizes, seats[-1], call))
    return (moves, seats, "reached" if seats[-1] in targets else "open")


class PlayTest(unittest.TestCase):

    def caller_choices(self, chance, sizes, targets):
        """Strategies of the caller, and what they do."""
        table = Table(sizes)
        zero = (0,) * len(sizes)
        found = []
        for many in (1, 2, 5):
            listed = [random_call(chance, sizes) for _ in range(many)]
            found.append((listed, lambda turn, seat, listed=listed: listed[turn % len(listed)]))
        if table.count() <= 300:
            found.append(("layers", lambda turn, seat: best_call(table, targets, seat) or zero))
        return found

    def responder_choices(self, chance, sizes, targets, witnesses):
        """Strategies of the responder, and what they do."""
        found = []
        for many in (1, 2, 5):
            listed = [chance.choice(DIRECTIONS) for _ in range(many)]
            found.append((listed, lambda turn, seat, call, listed=listed: listed[turn % len(listed)]))
        if Table(sizes).count() <= 300:
            numbers = brute_numbers(sizes, targets)
            found.append(("layers", lambda turn, seat, call: words_of_layers(numbers, sizes, seat, call)))
        for witness in witnesses:
            found.append((witness, lambda turn, seat, call, witness=witness:
                          words_of_avoiding(witness, sizes, seat, call)))
        return found

    def check(self, chance, sizes, targets, seats, witnesses):
        table = Table(sizes)
        for strategy, call_for in self.caller_choices(chance, sizes, targets):
            caller = Caller(table, targets, strategy)
            for answer, direction_for in self.responder_choices(chance, sizes, targets, witnesses):
                responder = Responder(table, targets, answer)
                for seat in seats:
                    self.check_game(sizes, targets, seat, (caller, call_for), (responder, direction_for), answer)

    def check_game(self, sizes, targets, seat, caller, responder, answer):
        for limit in (0, 1, 2, 3, 12):
            given = Table(sizes), targets, seat, caller[0], responder[0], limit
            if isinstance(answer, tuple) and seat not in targets and plain_value(answer, seat) == answer[2]:
                assert_error(self, "InvalidSeat", seat, play, *given)
                continue
            made = play(*given)
            self.assertEqual(made, plain_game(sizes, targets, seat, caller[1], responder[1], limit))
            self.assertIs(type(made), tuple)
            self.assertEqual([type(part) for part in made], [list, list, str])
            # Every game starts the lists again.
            self.assertEqual(play(*given), made)

    def test_small_tables(self):
        chance = random.Random(6)
        for sizes in SMALL:
            for targets in target_choices(sizes, chance)[::4]:
                witnesses = witnesses_for(sizes, targets, [3, 5])
                witnesses = chance.sample(witnesses, min(3, len(witnesses)))
                seats = all_seats(sizes)
                with self.subTest(sizes=sizes, targets=targets):
                    self.check(chance, sizes, targets, chance.sample(seats, min(5, len(seats))), witnesses)

    def test_large_rings(self):
        chance = random.Random(7)
        p = 10 ** 35 + 3
        for sizes, targets, witness in (
                ([3 * p], [(0,), (3,)], (3, (2,), 0)), ([p, 9, p], [(1, 4, 2), (2, 4, 1)], (9, (0, 2, 0), 8)),
                ([15, 2 * p], [(14, 2 * p - 1)], (15 * p, (p, 15), 14 * p - 15))):
            seats = [targets[0], targets[-1], (0,) * len(sizes), (1,) * len(sizes)]
            seats += [tuple(chance.randrange(size) for size in sizes) for _ in range(4)]
            self.check(chance, sizes, targets, seats, [witness])

    def test_limit_0_and_start_on_a_target(self):
        table, targets = Table([9]), [(0,), (3,)]
        for strategy in ("layers", [(1,)]):
            caller = Caller(table, targets, strategy)
            for answer in ("layers", ["backward"], (3, (1,), 0)):
                responder = Responder(table, targets, answer)
                for limit in (0, 1, 10 ** 30, HUGE):
                    self.assertEqual(play(table, targets, (3,), caller, responder, limit), ([], [(3,)], "reached"))
                self.assertEqual(play(table, targets, (1,), caller, responder, 0), ([], [(1,)], "open"))

    def test_a_huge_limit_does_not_matter_when_the_game_ends(self):
        table, targets = Table([64]), [(0,)]
        caller = Caller(table, targets, "layers")
        for answer in ("layers", ["forward"], ["backward", "forward", "forward"]):
            responder = Responder(table, targets, answer)
            for seat in all_seats([64]):
                made = play(table, targets, seat, caller, responder, HUGE)
                self.assertEqual(made[2], "reached")
                self.assertEqual(made, play(table, targets, seat, caller, responder, 6))

    def test_the_first_seat_of_the_residue_is_an_error(self):
        table, targets = Table([9]), [(0,)]
        caller = Caller(table, targets, [(1,)])
        responder = Responder(table, targets, (3, (1,), 0))
        for seat in ((3,), (6,)):
            for limit in (0, 1, 5):
                assert_error(self, "InvalidSeat", seat, play, table, targets, seat, caller, responder, limit)
            assert_error(self, "InvalidNumber", "limit", play, table, targets, seat, caller, responder, -1)
        self.assertEqual(play(table, targets, (0,), caller, responder, 5), ([], [(0,)], "reached"))

    def test_a_game_does_not_change_the_players(self):
        table, targets = Table([7]), [(0,), (1,)]
        listed, calls = ["forward", "backward", "backward"], [(1,), (2,), (3,), (4,)]
        responder, caller = Responder(table, targets, listed), Caller(table, targets, calls)
        for turn in range(12):
            self.assertEqual(responder.answer((1,), (1,)), listed[turn % 3])
            self.assertEqual(caller.next_call((1,)), calls[turn % 4])
            made = play(table, targets, (3,), caller, responder, 5)
            expected = plain_game([7], targets, (3,), lambda at, seat: calls[at % 4],
                                  lambda at, seat, call: listed[at % 3], 5)
            self.assertEqual(made, expected)
            for wrong in ((7,), None):
                assert_error(self, "InvalidSeat", wrong, play, table, targets, wrong, caller, responder, 5)

    def test_players_belong_to_sizes_and_sets_of_targets(self):
        targets = [(0, 1), (2, 0), (3, 2)]
        expected = play(Table([4, 3]), targets, (1, 1), Caller(Table([4, 3]), targets, "layers"),
                        Responder(Table([4, 3]), targets, "layers"), 9)
        for one in (targets, targets[::-1], tuple(targets), [targets[1], targets[2], targets[0]]):
            for other in (targets, tuple(targets[::-1])):
                caller = Caller(Table((4, 3)), one, "layers")
                responder = Responder(Table([4, 3]), other, "layers")
                for given in (targets, targets[::-1], tuple(targets)):
                    self.assertEqual(play(Table([4, 3]), given, (1, 1), caller, responder, 9), expected)

    def test_players_of_other_tables_or_targets(self):
        table, targets = Table([4, 3]), [(0, 0), (1, 1)]
        caller = Caller(table, targets, [(1, 1)])
        responder = Responder(table, targets, ["forward"])
        for sizes, other in (([4, 3], [(0, 0)]), ([4, 3], [(1, 1)]), ([4, 3], [(0, 0), (1, 0)]),
                             ([4, 3], [(0, 0), (1, 1), (2, 2)]), ([3, 4], [(0, 0), (1, 1)]),
                             ([4, 4], [(0, 0), (1, 1)]), ([12], [(0,), (1,)]), ([4, 3, 1], [(0, 0, 0), (1, 1, 0)])):
            ones = (1,) * len(sizes)
            for strategy in ("layers", [ones]):
                wrong = Caller(Table(sizes), other, strategy)
                assert_error(self, "Mismatch", "caller", play, table, targets, (2, 2), wrong, responder, 3)
                assert_error(self, "Mismatch", "caller", play, table, targets, (0, 0), wrong, wrong, 3)
            for strategy in ("layers", ["forward"], (3, (0,) * len(sizes), 0)):
                wrong = Responder(Table(sizes), other, strategy)
                assert_error(self, "Mismatch", "responder", play, table, targets, (2, 2), caller, wrong, 3)
                assert_error(self, "Mismatch", "responder", play, table, targets, (0, 0), caller, wrong, None)
                assert_error(self, "Mismatch", "caller", play, table, targets, (0, 0), wrong, caller, None)

    def test_returned_lists_are_new_and_arguments_are_kept(self):
        table, targets = Table([7]), [(0,)]
        kept = deepcopy(targets)
        caller, responder = Caller(table, targets, [(1,), (2,)]), Responder(table, targets, ["forward", "backward"])
        first = play(table, targets, (3,), caller, responder, 6)
        copied = deepcopy(first)
        first[0].append("x")
        first[1].reverse()
        self.assertEqual(play(limit=6, responder=responder, caller=caller, seat=(3,), targets=targets, table=table),
                         copied)
        self.assertEqual(targets, kept)
        # The targets of a game may be a tuple or a list.
        self.assertEqual(play(table, tuple(targets), (3,), caller, responder, 6), copied)


class GuaranteesTest(unittest.TestCase):

    def some_tables(self, seed):
        chance = random.Random(seed)
        for sizes in SMALL:
            for targets in target_choices(sizes, chance)[::3]:
                yield chance, sizes, targets

    def test_a_witness_keeps_the_walker_off(self):
        for chance, sizes, targets in self.some_tables(8):
            table = Table(sizes)
            for seat in all_seats(sizes):
                result = reach(table, targets, seat)
                if result[0] == "reachable":
                    continue
                responder = Responder(table, targets, result[1])
                for strategy in ("layers", [random_call(chance, sizes) for _ in range(9)]):
                    caller = Caller(table, targets, strategy)
                    _, seats, outcome = play(table, targets, seat, caller, responder, 40)
                    self.assertEqual(outcome, "open")
                    self.assertEqual(len(seats), 41)
                    for passed in seats:
                        self.assertNotEqual(plain_value(result[1], passed), result[1][2])

    def test_the_caller_is_in_time(self):
        for chance, sizes, targets in self.some_tables(9):
            table = Table(sizes)
            caller = Caller(table, targets, "layers")
            for seat in all_seats(sizes):
                number = min_calls(table, targets, seat)
                if number is None:
                    continue
                for answers in product(DIRECTIONS, repeat=max(1, min(number, 4))):
                    responder = Responder(table, targets, list(answers))
                    moves, _, outcome = play(table, targets, seat, caller, responder, number)
                    self.assertEqual(outcome, "reached")
                    self.assertLessEqual(len(moves), number)

    def test_the_responder_with_layers_is_not_reached_earlier(self):
        for chance, sizes, targets in self.some_tables(10):
            table = Table(sizes)
            responder = Responder(table, targets, "layers")
            for seat in all_seats(sizes):
                number = min_calls(table, targets, seat)
                for _ in range(6):
                    caller = Caller(table, targets, [random_call(chance, sizes) for _ in range(11)])
                    limit = 30 if number is None else max(number - 1, 0)
                    if number != 0:
                        self.assertEqual(play(table, targets, seat, caller, responder, limit)[2], "open")

    def test_every_call_against_the_responder_with_layers(self):
        for _, sizes, targets in self.some_tables(11):
            table = Table(sizes)
            numbers = brute_numbers(sizes, targets)
            responder = Responder(table, targets, "layers")
            for seat in all_seats(sizes):
                for call in all_seats(sizes):
                    after = table.step(seat, call, responder.answer(seat, call))
                    if seat not in numbers:
                        self.assertNotIn(after, numbers)
                    elif after in numbers:
                        self.assertGreaterEqual(numbers[after], numbers[seat] - 1)

    def test_both_with_layers(self):
        for _, sizes, targets in self.some_tables(12):
            table = Table(sizes)
            caller, responder = Caller(table, targets, "layers"), Responder(table, targets, "layers")
            for seat in all_seats(sizes):
                number = min_calls(table, targets, seat)
                moves, seats, outcome = play(table, targets, seat, caller, responder, 25)
                self.assertEqual(seats, walked(sizes, seat, moves))
                if number is None:
                    self.assertEqual((len(moves), outcome), (25, "open"))
                else:
                    self.assertEqual((len(moves), outcome), (number, "reached"))

    def test_300_seats(self):
        for sizes in ([300], [4, 75], [5, 3, 5, 4]):
            zero, last = (0,) * len(sizes), (1,) * len(sizes)
            table, targets = Table(sizes), [zero, last]
            caller, responder = Caller(table, targets, "layers"), Responder(table, targets, "layers")
            for seat in all_seats(sizes)[::7]:
                number = min_calls(table, targets, seat)
                moves, _, outcome = play(table, targets, seat, caller, responder, 50)
                self.assertEqual((len(moves), outcome), (50, "open") if number is None else (number, "reached"))

    def test_large_tables_take_lists_and_witnesses_but_no_layers(self):
        for sizes in ([301], [7, 43], [2, 151], [3, 10 ** 20, 2, 5], [HUGE * 3]):
            table, targets = Table(sizes), [(0,) * len(sizes)]
            assert_error(self, "TooLarge", 300, Responder, table, targets, "layers")
            assert_error(self, "TooLarge", 300, Caller, table, targets, "layers")
            caller = Caller(table, targets, [(1,) * len(sizes)])
            responder = Responder(table, targets, ["backward"])
            self.assertEqual(play(table, targets, (1,) * len(sizes), caller, responder, 4)[2], "reached")
            Responder(table, targets, (3, (0,) * len(sizes), 0))
            for wrong in ("Layers", "layers ", [], None, (3, (0,) * len(sizes), 1)):
                assert_error(self, "InvalidStrategy", wrong, Responder, table, targets, wrong)
                assert_error(self, "InvalidStrategy", wrong, Caller, table, targets, wrong)


if __name__ == "__main__":
    unittest.main()
