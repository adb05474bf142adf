"""Stage 7: tours, right arguments, and witnesses with one mistake."""

import random
import unittest
from copy import deepcopy
from itertools import product

from calledseats.layers import layers
from calledseats.reach import reach
from calledseats.tables import Table
from calledseats.tours import check_end, kept_empty, max_more, max_visited, run_tour, tour_call
from tests.support import HUGE, all_seats, all_witnesses, assert_error, assert_reduced, assert_witness, brute_numbers
from tests.support import minus, not_witnesses, plain_value, plus

SMALL = [[1], [2], [3], [4], [5], [6], [7], [9], [12], [15], [18], [1, 1], [2, 2], [3, 2], [3, 3], [4, 3], [5, 2],
         [6, 3], [2, 3, 2], [3, 1, 3], [3, 3, 2], [1, 2, 3, 2], [1, 1, 1, 3], [2, 2, 2, 2]]
EXACTLY_300 = [[300], [4, 75], [3, 100], [2, 15, 10], [5, 3, 5, 4]]
NEARLY_300 = [[243], [256], [289], [299], [17, 17], [9, 27], [3, 3, 3, 9], [4, 4, 4, 4], [5, 5, 11]]
ABOVE_300 = [[301], [7, 43], [2, 151], [5, 61], [7, 7, 7], [1, 1, 301, 1], [10 ** 20], [2, 10 ** 30, 3], [HUGE]]
DIRECTIONS = ("forward", "backward")


def unvisited(sizes, visited, seat):
    return [other for other in all_seats(sizes) if other != seat and other not in visited]


def some_visited(chance, sizes, seat):
    """Lists of visited seats: none, a few, half of all, all but a few, all; some with the current seat."""
    seats = all_seats(sizes)
    found = [[], [seat], list(seats)]
    for many in (1, 2, len(seats) // 2, len(seats) - 3, len(seats) - 2, len(seats) - 1):
        if 0 < many <= len(seats):
            found.append(chance.sample(seats, many))
    return found


def some_tours(seed, tables):
    chance = random.Random(seed)
    for sizes in tables:
        seats = all_seats(sizes)
        for seat in chance.sample(seats, min(3, len(seats))):
            for visited in some_visited(chance, sizes, seat):
                yield chance, sizes, visited, seat


class MaxVisitedTest(unittest.TestCase):

    def test_all_counts_up_to_300(self):
        for count in range(1, 301):
            odd = [p for p in range(3, count + 1, 2) if count % p == 0]
            expected = count - count // odd[0] if odd else count
            self.assertEqual(max_visited(Table([count])), expected)
            self.assertEqual(max_visited(table=Table((1, count, 1))), expected)
            for size in range(2, 18):
                if count % size == 0:
                    self.assertEqual(max_visited(Table([size, count // size])), expected)

    def test_too_large(self):
        for sizes in EXACTLY_300:
            self.assertEqual(max_visited(Table(sizes)), 200)
        for sizes in ABOVE_300:
            assert_error(self, "TooLarge", 300, max_visited, Table(sizes))

    def test_a_fresh_table_keeps_the_rest(self):
        for sizes in SMALL + EXACTLY_300 + NEARLY_300:
            table = Table(sizes)
            for seat in all_seats(sizes)[::max(1, table.count() // 3)]:
                self.assertEqual(kept_empty(table, [], seat)[0], table.count() - max_visited(table))


class KeptEmptyTest(unittest.TestCase):

    def check(self, sizes, visited, seat, witnesses):
        made = kept_empty(Table(sizes), visited, seat)
        rest = unvisited(sizes, visited, seat)
        most = 0
        for witness in witnesses:
            if plain_value(witness, seat) != witness[2]:
                most = max(most, sum(plain_value(witness, other) == witness[2] for other in rest))
        self.assertEqual(made[0], most)
        self.check_result(sizes, rest, seat, made)

    def check_result(self, sizes, rest, seat, made):
        self.assertIs(type(made), tuple)
        count, witness = made
        self.assertIs(type(count), int)
        if count == 0:
            self.assertIsNone(witness)
        else:
            kept = [other for other in rest if plain_value(witness, other) == witness[2]]
            self.assertEqual(len(kept), count)
            assert_witness(self, sizes, kept, seat, witness)

    def test_small_tables_with_all_witnesses(self):
        witnesses = {}
        for chance, sizes, visited, seat in some_tours(1, SMALL):
            if tuple(sizes) not in witnesses:
                witnesses[tuple(sizes)] = all_witnesses(sizes, range(3, Table(sizes).count() + 4, 2))
            with self.subTest(sizes=sizes, visited=visited, seat=seat):
                self.check(sizes, visited, seat, witnesses[tuple(sizes)])

    def test_all_visited_sets_of_tiny_tables(self):
        for sizes in ([5], [6], [9], [3, 3], [2, 3]):
            seats = all_seats(sizes)
            witnesses = all_witnesses(sizes, [3, 5, 9])
            for chosen in range(2 ** len(seats)):
                visited = [seat for at, seat in enumerate(seats) if chosen >> at & 1]
                self.check(sizes, visited, seats[chosen % len(seats)], witnesses)

    def test_prime_powers(self):
        # Unvisited are seats with values that only a larger power of 3 tells from that of the seat.
        for sizes, rest, seat in (([27], [(3,), (12,), (21,)], (0,)), ([27], [(9,), (18,)], (0,)),
                                  ([9, 9], [(3, 0), (0, 3), (3, 3)], (0, 0)), ([45], [(9,), (18,), (15,)], (0,)),
                                  ([9, 3], [(3, 0), (6, 0), (3, 1)], (0, 0))):
            visited = [other for other in all_seats(sizes) if other not in rest]
            self.check(sizes, visited, seat, all_witnesses(sizes, [3, 5, 9, 15, 27, 45]))
            self.assertGreater(kept_empty(Table(sizes), visited, seat)[0], 0)

    def test_tables_with_up_to_300_seats(self):
        for chance, sizes, visited, seat in some_tours(2, EXACTLY_300 + NEARLY_300):
            made = kept_empty(Table(sizes), visited, seat)
            rest = unvisited(sizes, visited, seat)
            self.check_result(sizes, rest, seat, made)
            for _ in range(5):
                modulus = chance.choice([3, 5, 9, 13, 15, 17, 27, 45])
                witness = chance.choice(all_witnesses(sizes, [modulus])[:4000])
                if plain_value(witness, seat) != witness[2]:
                    self.assertGreaterEqual(made[0], sum(plain_value(witness, other) == witness[2] for other in rest))

    def test_too_large(self):
        for sizes in ABOVE_300:
            table, zero = Table(sizes), (0,) * len(sizes)
            for visited in ([], [zero]):
                assert_error(self, "TooLarge", 300, kept_empty, table, visited, zero)
                assert_error(self, "TooLarge", 300, tour_call, table, visited, zero)
                assert_error(self, "TooLarge", 300, check_end, table, visited, zero, (3, zero, 1))
                assert_error(self, "TooLarge", 300, check_end, table, visited, zero, None)
            assert_error(self, "TooLarge", 300, run_tour, table, zero, ["forward"], 0)
            assert_error(self, "TooLarge", 300, run_tour, table, zero, (3, zero, 1), HUGE)


class TourCallTest(unittest.TestCase):

    def check(self, sizes, visited, seat, numbers=None):
        made = tour_call(Table(sizes), visited, seat)
        self.check_result(sizes, visited, seat, made, numbers)
        return made

    def check_result(self, sizes, visited, seat, made, numbers=None):
        rest = unvisited(sizes, visited, seat)
        self.assertIs(type(made), tuple)
        if not rest:
            self.assertEqual(made, ("complete",))
            return
        numbers = numbers or brute_numbers(sizes, rest)
        self.assertEqual(len(made), 2)
        if seat not in numbers:
            self.assertEqual(made[0], "end")
            assert_witness(self, sizes, rest, seat, made[1])
            self.assertIsNone(check_end(Table(sizes), visited, seat, made[1]))
        else:
            self.assertEqual(made[0], "call")
            assert_reduced(self, sizes, made[1])
            for move in (plus(sizes, seat, made[1]), minus(sizes, seat, made[1])):
                self.assertLess(numbers[move], numbers[seat])

    def test_small_tables(self):
        outcomes = {"complete": 0, "call": 0, "end": 0}
        for _, sizes, visited, seat in some_tours(3, SMALL):
            with self.subTest(sizes=sizes, visited=visited, seat=seat):
                outcomes[self.check(sizes, visited, seat)[0]] += 1
        self.assertGreater(min(outcomes.values()), 30)

    def test_all_visited_sets_of_tiny_tables(self):
        for sizes in ([5], [6], [9], [3, 3], [2, 3], [2, 2, 2]):
            seats = all_seats(sizes)
            for chosen in range(2 ** len(seats)):
                visited = [seat for at, seat in enumerate(seats) if chosen >> at & 1]
                self.check(sizes, visited, seats[chosen % len(seats)])

    def test_tables_with_up_to_300_seats(self):
        for chance, sizes, visited, seat in some_tours(4, EXACTLY_300 + NEARLY_300):
            rest = unvisited(sizes, visited, seat)
            rows = layers(Table(sizes), rest) if rest else []
            self.check(sizes, visited, seat, {other: number for number, row in enumerate(rows) for other in row})
        for sizes in ([300], [9, 27]):
            self.check(sizes, all_seats(sizes)[5:], all_seats(sizes)[-1])
            self.check(sizes, all_seats(sizes)[::2], all_seats(sizes)[0])

    def test_lists_tuples_and_orders(self):
        for chance, sizes, visited, seat in some_tours(5, [[1], [5], [6], [9], [3, 3], [4, 3], [45], [2, 2, 3]]):
            table, kept = Table(tuple(sizes)), list(visited)
            rest = unvisited(sizes, visited, seat)
            made = tour_call(table, visited, seat), kept_empty(table, visited, seat)
            self.assertEqual(visited, kept)
            self.assertEqual(made, (tour_call(Table(sizes), tuple(visited), seat),
                                    kept_empty(Table(sizes), tuple(visited), seat)))
            self.assertEqual(made, (tour_call(seat=seat, visited=visited, table=table),
                                    kept_empty(seat=seat, visited=visited, table=table)))
            other = chance.sample(visited, len(visited))
            if seat not in visited:
                other.insert(len(other) // 2, seat)
            else:
                other.remove(seat)
            self.check(sizes, other, seat)
            self.assertEqual(kept_empty(table, other, seat)[0], made[1][0])
            self.assertEqual(tour_call(table, other, seat)[0], made[0][0])
            self.assertEqual(len(unvisited(sizes, other, seat)), len(rest))


class CheckEndTest(unittest.TestCase):

    def first_fault(self, rest, seat, witness):
        for index, other in enumerate(rest):
            if plain_value(witness, other) != witness[2]:
                return index
        return len(rest) if plain_value(witness, seat) == witness[2] else None

    def test_all_witnesses_of_small_tables(self):
        indexes = set()
        for _, sizes, visited, seat in some_tours(6, [[1], [2], [3], [6], [9], [3, 3], [15], [4, 3], [2, 3, 2]]):
            rest = unvisited(sizes, visited, seat)
            for witness in all_witnesses(sizes, [3, 5, 9]):
                index = self.first_fault(rest, seat, witness)
                if index is None:
                    self.assertIsNone(check_end(Table(sizes), visited, seat, witness))
                    self.assertIsNone(check_end(witness=witness, seat=seat, visited=tuple(visited), table=Table(sizes)))
                else:
                    assert_error(self, "InvalidWitness", index, check_end, Table(sizes), visited, seat, witness)
                indexes.add(index)
        self.assertLessEqual({None, 0, 1, 2, 3, 4}, indexes)

    def test_no_witness_for_the_table(self):
        table = Table([6, 9])
        for witness in not_witnesses():
            for visited in ([], [(1, 1)], all_seats([6, 9])):
                assert_error(self, "InvalidWitness", -1, check_end, table, visited, (1, 1), witness)

    def test_no_unvisited_seat(self):
        self.assertIsNone(check_end(Table([3]), all_seats([3]), (0,), (3, (1,), 2)))
        self.assertIsNone(check_end(Table([1]), [], (0,), (3, (0,), 2)))
        assert_error(self, "InvalidWitness", 0, check_end, Table([1]), [], (0,), (3, (0,), 0))
        assert_error(self, "InvalidWitness", 0, check_end, Table([3]), [(1,), (2,)], (0,), (3, (1,), 0))

    def test_300_seats(self):
        for sizes in EXACTLY_300:
            table, zero = Table(sizes), (0,) * len(sizes)
            weights = tuple(int(size % 3 == 0) for size in sizes)
            visited = [seat for seat in all_seats(sizes) if plain_value((3, weights, 0), seat) != 2]
            self.assertIsNone(check_end(table, visited, zero, (3, weights, 2)))
            self.assertEqual(tour_call(table, visited, zero)[0], "end")
            self.assertEqual(kept_empty(table, visited, zero)[0], 100)
            assert_error(self, "InvalidWitness", 0, check_end, table, visited, zero, (3, weights, 1))
            visited.append(unvisited(sizes, visited, zero)[-1])
            assert_error(self, "InvalidWitness", 99, check_end, table, visited, visited[-1], (3, weights, 2))


class RunTourTest(unittest.TestCase):

    def replay(self, sizes, seat, responder, limit, made):
        """Check every call, direction and seat, and the outcome, by the text of [7.3] and [7.4]."""
        self.assertEqual([type(part) for part in made], [list, list, str])
        moves, seats, outcome = made
        self.assertLessEqual(len(moves), limit)
        current, seen, numbers = seat, [seat], None
        for turn, move in enumerate(moves):
            self.assertIs(type(move), tuple)
            call, direction = move
            numbers = numbers or brute_numbers(sizes, unvisited(sizes, seen, current))
            TourCallTest().check_result(sizes, seen, current, ("call", call), numbers)
            if isinstance(responder, list):
                self.assertEqual(direction, responder[turn % len(responder)])
            else:
                hit = plain_value(responder, plus(sizes, current, call)) == responder[2]
                self.assertEqual(direction, "backward" if hit else "forward")
            current = (plus if direction == "forward" else minus)(sizes, current, call)
            if current not in seen:
                seen.append(current)
                numbers = None
        self.assertEqual(seats, seen)
        last = tour_call(Table(sizes), seen, current)
        if last[0] == "call":
            self.assertEqual((outcome, len(moves)), ("open", limit))
        else:
            self.assertEqual(outcome, last[0])
        if isinstance(responder, tuple):
            self.assertTrue(all(plain_value(responder, other) != responder[2] for other in seen))
        return outcome

    def responders(self, chance, sizes, seat):
        found = [[chance.choice(DIRECTIONS) for _ in range(many)] for many in (1, 1, 2, 5, 23)]
        witnesses = [witness for witness in all_witnesses(sizes, [3, 5, 9, 15])
                     if plain_value(witness, seat) != witness[2]]
        return found + chance.sample(witnesses, min(5, len(witnesses)))

    def test_small_tables(self):
        chance = random.Random(7)
        outcomes = {"complete": 0, "open": 0, "end": 0}
        for sizes in SMALL:
            for seat in chance.sample(all_seats(sizes), min(2, Table(sizes).count())):
                for responder in self.responders(chance, sizes, seat):
                    for limit in (0, 1, 2, 7, HUGE):
                        with self.subTest(sizes=sizes, seat=seat, responder=responder, limit=limit):
                            made = run_tour(Table(sizes), seat, responder, limit)
                            outcomes[self.replay(sizes, seat, responder, limit, made)] += 1
                            if limit == HUGE:
                                self.assertNotEqual(made[2], "open")
                                self.assertGreaterEqual(len(made[1]), max_visited(Table(sizes)))
        self.assertGreater(min(outcomes.values()), 50)

    def test_the_limit_just_reached(self):
        for sizes in ([4], [6], [2, 3], [7], [3, 3], [8]):
            zero = (0,) * len(sizes)
            for responder in (["forward"], ["backward", "forward", "forward"]):
                moves, seats, outcome = run_tour(Table(sizes), zero, responder, 10 ** 9)
                self.assertEqual(run_tour(Table(sizes), zero, responder, len(moves)), (moves, seats, outcome))
                if moves:
                    part = run_tour(Table(sizes), zero, responder, len(moves) - 1)
                    self.assertEqual((part[0], part[2]), (moves[:-1], "open"))
                    self.replay(sizes, zero, responder, len(moves) - 1, part)

    def test_no_witness_visits_the_seats_that_it_keeps(self):
        for sizes in ([9], [15], [3, 3], [6, 3], [45]):
            zero = (0,) * len(sizes)
            count, witness = kept_empty(Table(sizes), [], zero)
            _, seats, outcome = run_tour(Table(sizes), zero, witness, HUGE)
            self.assertEqual((len(seats), outcome), (Table(sizes).count() - count, "end"))
            self.assertEqual(len(seats), max_visited(Table(sizes)))

    def test_tables_with_up_to_300_seats(self):
        chance = random.Random(8)
        for sizes in EXACTLY_300 + NEARLY_300:
            seats = all_seats(sizes)
            seat, power_of_2 = chance.choice(seats), len(seats) & (len(seats) - 1) == 0
            for responder in (["forward"], [chance.choice(DIRECTIONS) for _ in range(37)]):
                made = run_tour(Table(sizes), seat, responder, HUGE)
                self.assertEqual(made[2] == "complete", len(made[1]) == len(seats))
                self.assertTrue(made[2] == "complete" or not power_of_2)
                self.assertGreaterEqual(len(made[1]), max_visited(Table(sizes)))
            count, witness = kept_empty(Table(sizes), [], seat)
            if witness is not None:
                self.assertEqual(len(run_tour(Table(sizes), seat, witness, HUGE)[1]), len(seats) - count)

    def test_replays_of_larger_tables(self):
        chance = random.Random(9)
        for sizes in ([64], [75], [5, 15], [4, 4, 4]):
            seat = chance.choice(all_seats(sizes))
            for responder in self.responders(chance, sizes, seat)[2:7:2]:
                for limit in (10, 10 ** 6):
                    self.replay(sizes, seat, responder, limit, run_tour(Table(sizes), seat, responder, limit))

    def test_arguments_and_results(self):
        listed = ["forward", "backward", "backward"]
        made = run_tour(Table([9]), (2,), listed, 30)
        copied = deepcopy(made)
        made[0].clear()
        made[1].append("x")
        self.assertEqual(listed, ["forward", "backward", "backward"])
        self.assertEqual(run_tour(limit=30, responder=list(listed), seat=(2,), table=Table((9,))), copied)


def searched_more(sizes, visited, seat):
    """The number of [7.6], through all sets of unvisited seats and all calls."""
    seats = all_seats(sizes)
    calls = {other: [(plus(sizes, other, call), minus(sizes, other, call)) for call in seats] for other in seats}
    known = {}

    def more(rest):
        """For each seat that is not in the rest, how many seats of the rest the caller can visit from it."""
        if rest not in known:
            worth = {other: 0 for other in seats if other not in rest}
            gain = {other: 1 + more(rest - {other})[other] for other in rest}
            changed = True
            while changed:
                changed = False
                for other in worth:
                    best = max(min(gain.get(move, worth.get(move)) for move in moves) for moves in calls[other])
                    if best > worth[other]:
                        worth[other], changed = best, True
            known[rest] = worth
        return known[rest]

    return more(frozenset(unvisited(sizes, visited, seat)))[seat]


class MaxMoreTest(unittest.TestCase):

    def check(self, sizes, visited, seat):
        made = max_more(Table(sizes), visited, seat)
        self.assertIs(type(made), int)
        self.assertEqual(made, searched_more(sizes, visited, seat))
        rest = len(unvisited(sizes, visited, seat))
        self.assertEqual(made == 0, tour_call(Table(sizes), visited, seat)[0] in ("end", "complete"))
        self.assertGreaterEqual(rest - made, kept_empty(Table(sizes), visited, seat)[0])
        return rest - made

    def test_all_visited_sets_of_tables_with_up_to_6_seats(self):
        for sizes in ([1], [2], [3], [4], [5], [6], [2, 2], [2, 3], [3, 2, 1]):
            seats = all_seats(sizes)
            for seat in seats[:2]:
                for chosen in product((0, 1), repeat=len(seats)):
                    visited = [other for other, is_in in zip(seats, chosen) if is_in]
                    left = self.check(sizes, visited, seat)
                    for other in seats:
                        if other not in visited and other != seat:
                            rest = len(unvisited(sizes, visited + [other], seat))
                            self.assertLessEqual(rest - max_more(Table(sizes), visited + [other], seat), left)

    def test_7_to_9_seats(self):
        for _, sizes, visited, seat in some_tours(10, [[7], [8], [9], [3, 3], [2, 4], [2, 2, 2], [1, 9], [3, 1, 3, 1]]):
            with self.subTest(sizes=sizes, visited=visited, seat=seat):
                self.check(sizes, visited, seat)

    def test_fresh_tables(self):
        for sizes in ([1], [2], [3], [4], [5], [6], [7], [8], [9], [3, 3], [2, 4], [2, 2, 2], [2, 3], [5, 1]):
            table = Table(sizes)
            for seat in (all_seats(sizes)[0], all_seats(sizes)[-1]):
                made = max_more(table, [], seat)
                self.assertEqual(made, max_visited(table) - 1)
                self.assertEqual(table.count() - 1 - made, kept_empty(table, [], seat)[0])
                self.assertEqual(max_more(table, [seat], seat), made)

    def test_lists_tuples_and_keywords(self):
        for visited in ([], [(1,)], [(5,), (2,), (0,)]):
            kept = list(visited)
            made = max_more(Table([7]), visited, (0,))
            self.assertEqual(max_more(seat=(0,), visited=tuple(visited[::-1]), table=Table((7,))), made)
            self.assertEqual(visited, kept)

    def test_too_large(self):
        for sizes in ABOVE_300 + EXACTLY_300 + [[10], [2, 5], [5, 2], [3, 4], [2, 2, 3], [1, 10, 1]]:
            zero = (0,) * len(sizes)
            assert_error(self, "TooLarge", 9, max_more, Table(sizes), [], zero)
            assert_error(self, "TooLarge", 9, max_more, Table(sizes), (zero,), zero)
            assert_error(self, "InvalidTargets", 1, max_more, Table(sizes), (zero, zero), zero)
            seat = tuple(sizes)
            assert_error(self, "InvalidSeat", seat, max_more, Table(sizes), (zero,), seat)


class ReachabilityTest(unittest.TestCase):

    def test_an_unvisited_seat_can_be_reached_or_a_witness_separates(self):
        for _, sizes, visited, seat in some_tours(11, SMALL):
            rest = unvisited(sizes, visited, seat)
            if rest:
                self.assertEqual(tour_call(Table(sizes), visited, seat)[0] == "call",
                                 reach(Table(sizes), rest, seat) == ("reachable",))


if __name__ == "__main__":
    unittest.main()
