"""Stage 1: tables, right arguments."""

import unittest
from math import gcd

from calledseats.tables import Table
from tests.support import all_seats, brute_order, minus, plus

SMALL = [
    [1], [2], [3], [4], [5], [6], [7], [8], [9], [12], [15], [16], [1, 1], [1, 5], [5, 1], [2, 2], [2, 3], [4, 6],
    [6, 4], [3, 9], [8, 2], [1, 1, 1], [2, 1, 2], [2, 2, 2], [2, 3, 4], [3, 3, 3], [1, 1, 1, 1], [2, 2, 2, 2],
    [1, 2, 3, 4], [4, 3, 2, 1], [2, 4, 2, 4], [3, 1, 6, 2],
]
P, Q, R, S = 10 ** 30 + 57, 2 ** 127 - 1, 3 ** 70, 2 ** 200


class SizesTest(unittest.TestCase):

    def test_sizes_and_count(self):
        for rings in SMALL + [[P], [P, Q], [S, R, Q], [P, Q, R, S], [10 ** 5000]]:
            product = 1
            for size in rings:
                product *= size
            for given in (rings, tuple(rings)):
                table = Table(given)
                self.assertIs(type(table.sizes()), tuple)
                self.assertTrue(table.sizes() == tuple(rings))
                self.assertTrue(table.count() == product)

    def test_keyword(self):
        self.assertEqual(Table(rings=[4, 3]).sizes(), (4, 3))
        self.assertEqual(Table(rings=(1,)).count(), 1)

    def test_rings_are_copied_and_not_modified(self):
        rings = [4, 3]
        table = Table(rings)
        self.assertEqual(rings, [4, 3])
        rings[0] = 5
        rings.append(7)
        self.assertEqual(table.sizes(), (4, 3))
        self.assertEqual(table.count(), 12)
        self.assertEqual(table.moves((0, 0), (1, 1)), ((1, 1), (3, 2)))
        self.assertEqual(table.step((0, 0), (1, 1), "backward"), (3, 2))
        self.assertEqual(table.order((1, 1)), 12)
        self.assertEqual(table.halves((2, 1)), [(1, 2), (3, 2)])

    def test_a_table_never_changes(self):
        table = Table([4, 6])
        before = describe(table)
        table.moves((1, 2), (7, -9))
        table.step((1, 2), (7, -9), "forward")
        table.order((3, 3))
        table.halves((2, 2)).append("x")
        for wrong in ((4, 0), None, [0, 0]):
            for method in (table.order, table.halves):
                with self.assertRaises(ValueError):
                    method(wrong)
        self.assertEqual(describe(table), before)

    def test_tables_with_the_same_sizes_behave_alike(self):
        for rings in SMALL:
            self.assertEqual(describe(Table(list(rings))), describe(Table(tuple(rings))))


def describe(table):
    seats = all_seats(table.sizes())[:40]
    call = tuple(range(1, len(table.sizes()) + 1))
    return [table.sizes(), table.count()] + [
        (table.moves(seat, call), table.step(seat, call, "forward"), table.order(seat), table.halves(seat))
        for seat in seats]


class StepTest(unittest.TestCase):

    def check(self, rings, seat, call):
        table = Table(rings)
        forward = tuple([(place + part) % size for place, part, size in zip(seat, call, rings)])
        backward = tuple([(place - part) % size for place, part, size in zip(seat, call, rings)])
        moves = table.moves(seat, call)
        self.assertIs(type(moves), tuple)
        self.assertTrue(moves == (forward, backward))
        self.assertTrue(table.moves(seat=seat, call=call) == (forward, backward))
        for direction, goal in (("forward", forward), ("backward", backward)):
            made = table.step(seat, call, direction)
            self.assertIs(type(made), tuple)
            self.assertTrue(made == goal)
            self.assertTrue(table.step(seat=seat, call=call, direction=direction) == goal)
            self.assertTrue(table.step(seat, direction=direction, call=call) == goal)

    def test_all_calls_on_small_tables(self):
        for rings in ([1], [2], [5], [6], [1, 1], [2, 3], [4, 1], [2, 1, 3], [2, 1, 2, 3]):
            seats = all_seats(rings)
            for seat in seats:
                for call in seats:
                    self.check(rings, seat, call)

    def test_any_sign_and_magnitude(self):
        far = 10 ** 40 + 3
        parts = [0, 1, -1, 2, -2, 5, -5, 6, -6, 7, -7, 100, -100, far, -far, 10 ** 5000, -10 ** 5000]
        for part in parts:
            for place in range(6):
                self.check([6], (place,), (part,))
                self.check([1], (0,), (part,))
            for other in parts:
                self.check([4, 3], (3, 2), (part, other))

    def test_large_sizes(self):
        for rings in ([P], [P, Q], [S, R, Q], [P, Q, R, S]):
            last = tuple(size - 1 for size in rings)
            zero = (0,) * len(rings)
            middle = tuple(size // 3 for size in rings)
            for seat in (zero, middle, last):
                for call in (zero, middle, last, tuple(rings), tuple(-3 * size - 1 for size in rings)):
                    self.check(rings, seat, call)

    def test_zero_call_and_full_round(self):
        table = Table([4, 3])
        for seat in all_seats([4, 3]):
            self.assertEqual(table.moves(seat, (0, 0)), (seat, seat))
            self.assertEqual(table.moves(seat, (-8, 30)), (seat, seat))

    def test_rings_keep_their_order(self):
        self.assertEqual(Table([10, 20, 30, 40]).moves((1, 2, 3, 4), (9, 1, -4, 36)),
                         ((0, 3, 29, 0), (2, 1, 7, 8)))

    def test_directions_built_at_run_time(self):
        table = Table([6])
        self.assertEqual(table.step((1,), (2,), "".join(["for", "ward"])), (3,))
        self.assertEqual(table.step((1,), (2,), "".join(["back", "ward"])), (5,))


class OrderTest(unittest.TestCase):

    def test_small_tables(self):
        for rings in SMALL:
            table = Table(rings)
            for seat in all_seats(rings):
                self.assertEqual(table.order(seat), brute_order(rings, seat))
                self.assertEqual(table.order(seat=seat), brute_order(rings, seat))

    def test_known_orders(self):
        self.assertEqual(Table([1]).order((0,)), 1)
        self.assertEqual(Table([12]).order((0,)), 1)
        self.assertEqual(Table([12]).order((11,)), 12)
        self.assertEqual(Table([4, 6, 9, 10]).order((1, 1, 1, 1)), 180)
        self.assertEqual(Table([4, 6, 9, 10]).order((2, 3, 3, 5)), 6)
        self.assertEqual(Table([100, 100]).order((99, 50)), 100)

    def test_large_sizes(self):
        self.assertEqual(Table([P]).order((0,)), 1)
        self.assertEqual(Table([P]).order((P - 1,)), P)
        self.assertEqual(Table([S, R, Q]).order((1, 1, 1)), S * R * Q)
        self.assertEqual(Table([S, R, Q]).order((S // 8, R // 9, 0)), 72)
        self.assertEqual(Table([S, S * R]).order((3, 3)), S * R // 3)
        self.assertEqual(Table([10 ** 40, 10 ** 40]).order((10 ** 38, 4 * 10 ** 37)), 500)
        for place in (1, 2, 3 ** 20, 3 ** 69, 3 ** 69 * 2, R - 1):
            self.assertEqual(Table([R]).order((place,)), R // gcd(R, place))


class HalvesTest(unittest.TestCase):

    def test_small_tables(self):
        for rings in SMALL:
            table = Table(rings)
            seats = all_seats(rings)
            for seat in seats:
                expected = [half for half in seats if plus(rings, half, half) == seat]
                made = table.halves(seat)
                self.assertIs(type(made), list)
                self.assertEqual(made, expected)
                self.assertEqual(table.halves(seat=seat), expected)
                self.assertIn(len(made), (0, 1, 2, 4, 8, 16))

    def test_number_of_halves(self):
        sizes = [4, 6, 8, 10]
        for rings in range(1, 5):
            self.assertEqual(len(Table(sizes[:rings]).halves((2,) * rings)), 2 ** rings)
            self.assertEqual(Table(sizes[:rings]).halves((2,) * (rings - 1) + (3,)), [])
            self.assertEqual(Table(sizes[:rings]).halves((1,) + (2,) * (rings - 1)), [])
        self.assertEqual(Table([3, 5, 7, 9]).halves((1, 1, 1, 1)), [(2, 3, 4, 5)])
        self.assertEqual(Table([3, 4]).halves((1, 2)), [(2, 1), (2, 3)])
        self.assertEqual(Table([2, 2]).halves((0, 0)), [(0, 0), (0, 1), (1, 0), (1, 1)])

    def test_large_sizes(self):
        self.assertEqual(Table([P]).halves((1,)), [((P + 1) // 2,)])
        self.assertEqual(Table([P]).halves((P - 1,)), [((P - 1) // 2,)])
        self.assertEqual(Table([S]).halves((S - 1,)), [])
        self.assertEqual(Table([S]).halves((S - 2,)), [(S // 2 - 1,), (S - 1,)])
        self.assertEqual(Table([S]).halves((0,)), [(0,), (S // 2,)])
        rings = [S, R, 2 * P, 6 * Q]
        made = Table(rings).halves((4, 5, 6, 8))
        self.assertEqual(len(made), 8)
        self.assertEqual(made, sorted(made))
        self.assertEqual(len(set(made)), 8)
        for half in made:
            self.assertEqual(plus(rings, half, half), (4, 5, 6, 8))
            self.assertEqual(minus(rings, (4, 5, 6, 8), half), half)

    def test_the_list_is_new(self):
        for rings, seat in (([6], (4,)), ([6], (3,)), ([5], (1,)), ([4, 4, 4, 4], (2, 2, 2, 2))):
            table = Table(rings)
            first = table.halves(seat)
            kept = list(first)
            first.append("x")
            first.reverse()
            second = table.halves(seat)
            self.assertIsNot(first, second)
            self.assertEqual(second, kept)


if __name__ == "__main__":
    unittest.main()
