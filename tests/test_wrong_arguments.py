"""Wrong arguments: the class of the error, its value, and which argument decides."""

import unittest

from calledseats.reach import check_witness, coset_count, reach, value
from calledseats.tables import Table
from tests.support import AlwaysEqual, HUGE, Untouchable, assert_error, not_calls, not_directions, not_integers
from tests.support import not_seats, not_tables, not_target_lists, not_witnesses, strange_values

SEVERAL_SEATS = [[6], [4, 3], [6, 9], [2, 1, 5], [3, 2, 1, 4], [10 ** 40, 3]]
TABLES = [[1], [1, 1]] + SEVERAL_SEATS


def seats_of(sizes):
    """The first and the last seat of the table."""
    return [(0,) * len(sizes), tuple(size - 1 for size in sizes)]


class WrongTableTest(unittest.TestCase):

    def check(self, rings):
        assert_error(self, "InvalidTable", rings, Table, rings)
        assert_error(self, "InvalidTable", rings, Table, rings=rings)

    def test_other_kinds(self):
        for rings in strange_values() + [0, 1, 6, -1, HUGE, "", "4", "43", "forward", Table([4])]:
            self.check(rings)

    def test_wrong_lengths(self):
        for many in (0, 5, 6, 100):
            for size in (0, 1, 2, 7):
                self.check([size] * many)
                self.check((size,) * many)

    def test_wrong_sizes(self):
        for size in not_integers() + [0, -1, -4, -HUGE]:
            for many in range(1, 5):
                for at in range(many):
                    rings = [3] * at + [size] + [4] * (many - at - 1)
                    self.check(rings)
                    self.check(tuple(rings))

    def test_nested_rings(self):
        for rings in ([[4, 3]], ((4, 3),), [(4,), (3,)], [{}, 3], [3, []], {"rings": [4]}, [None], [True], [3, True]):
            self.check(rings)

    def test_huge_integers_stay_in_the_error(self):
        for rings in ([HUGE, 0], [0, HUGE], [HUGE] * 5, (-HUGE,), -HUGE, {HUGE: HUGE}):
            self.check(rings)

    def test_bounds_that_hold(self):
        for rings in ([1], [1, 1, 1, 1], (1, HUGE, 2, 3)):
            self.assertTrue(Table(rings).sizes() == tuple(rings))


class WrongTableArgumentTest(unittest.TestCase):

    def test_one_wrong_argument(self):
        for table in not_tables():
            assert_error(self, "InvalidTable", table, coset_count, table, [(0,)])
            assert_error(self, "InvalidTable", table, reach, table, [(0,)], (0,))
            assert_error(self, "InvalidTable", table, check_witness, table, [(0,)], (1,), (3, (1,), 0))
            assert_error(self, "InvalidTable", table, value, table, (3, (1,), 0), (0,))

    def test_by_keyword(self):
        for table in not_tables():
            assert_error(self, "InvalidTable", table, coset_count, table=table, targets=[(0,)])
            assert_error(self, "InvalidTable", table, reach, table=table, targets=[(0,)], seat=(0,))
            assert_error(self, "InvalidTable", table, check_witness, witness=(3, (1,), 0), seat=(1,),
                         targets=[(0,)], table=table)
            assert_error(self, "InvalidTable", table, value, table=table, witness=(3, (1,), 0), seat=(0,))

    def test_the_class_is_no_table(self):
        assert_error(self, "InvalidTable", Table, coset_count, Table, [(0,)])


class WrongSeatTest(unittest.TestCase):

    def test_tables(self):
        for sizes in TABLES:
            table = Table(sizes)
            zero = (0,) * len(sizes)
            for seat in not_seats(sizes):
                assert_error(self, "InvalidSeat", seat, table.moves, seat, zero)
                assert_error(self, "InvalidSeat", seat, table.moves, call=zero, seat=seat)
                assert_error(self, "InvalidSeat", seat, table.step, seat, zero, "forward")
                assert_error(self, "InvalidSeat", seat, table.step, direction="backward", call=zero, seat=seat)
                assert_error(self, "InvalidSeat", seat, table.order, seat)
                assert_error(self, "InvalidSeat", seat, table.order, seat=seat)
                assert_error(self, "InvalidSeat", seat, table.halves, seat)
                assert_error(self, "InvalidSeat", seat, table.halves, seat=seat)

    def test_reach(self):
        for sizes in TABLES:
            table = Table(sizes)
            zero = (0,) * len(sizes)
            witness = (3, zero, 0)
            for seat in not_seats(sizes):
                assert_error(self, "InvalidSeat", seat, reach, table, [zero], seat)
                assert_error(self, "InvalidSeat", seat, reach, seat=seat, targets=(zero,), table=table)
                assert_error(self, "InvalidSeat", seat, check_witness, table, [zero], seat, witness)
                assert_error(self, "InvalidSeat", seat, value, table, witness, seat)
                assert_error(self, "InvalidSeat", seat, value, witness=witness, table=table, seat=seat)

    def test_bounds_that_hold(self):
        for sizes in TABLES:
            table = Table(sizes)
            for seat in seats_of(sizes):
                self.assertEqual(table.step(seat, (0,) * len(sizes), "forward"), seat)
                self.assertEqual(reach(table, [seat], seat), ("reachable",))
                self.assertEqual(value(table, (3, (0,) * len(sizes), 2), seat), 0)


class WrongCallTest(unittest.TestCase):

    def test_moves_and_step(self):
        for sizes in TABLES:
            table = Table(sizes)
            for seat in seats_of(sizes):
                for call in not_calls(len(sizes)):
                    assert_error(self, "InvalidCall", call, table.moves, seat, call)
                    assert_error(self, "InvalidCall", call, table.moves, call=call, seat=seat)
                    assert_error(self, "InvalidCall", call, table.step, seat, call, "forward")
                    assert_error(self, "InvalidCall", call, table.step, direction="backward", call=call, seat=seat)


class WrongDirectionTest(unittest.TestCase):

    def test_step(self):
        for sizes in TABLES:
            table = Table(sizes)
            zero = (0,) * len(sizes)
            for direction in not_directions():
                assert_error(self, "InvalidDirection", direction, table.step, zero, zero, direction)
                assert_error(self, "InvalidDirection", direction, table.step, direction=direction, seat=zero, call=zero)


class WrongTargetsTest(unittest.TestCase):

    def check(self, table, targets, index):
        seat = (0,) * len(table.sizes())
        witness = (3, seat, 0)
        assert_error(self, "InvalidTargets", index, coset_count, table, targets)
        assert_error(self, "InvalidTargets", index, coset_count, targets=targets, table=table)
        assert_error(self, "InvalidTargets", index, reach, table, targets, seat)
        assert_error(self, "InvalidTargets", index, reach, seat=seat, table=table, targets=targets)
        assert_error(self, "InvalidTargets", index, check_witness, table, targets, seat, witness)
        assert_error(self, "InvalidTargets", index, check_witness, witness=witness, seat=seat, table=table,
                     targets=targets)

    def test_other_kinds_and_empty(self):
        for sizes in TABLES:
            for at in range(len(not_target_lists())):
                # Each call gets a value of its own: an iterator would be used up.
                self.check(Table(sizes), not_target_lists()[at], -1)

    def test_other_collections_of_seats(self):
        table = Table([6])
        for targets in ({(0,): 1}, {(0,)}, frozenset({(0,)}), iter([(0,)]), {0: (0,)}.values(), "(0,)", b"(0,)"):
            self.check(table, targets, -1)

    def test_first_entry_that_is_no_seat(self):
        for sizes in SEVERAL_SEATS:
            table = Table(sizes)
            first, last = seats_of(sizes)
            for entry in not_seats(sizes):
                self.check(table, [entry], 0)
                self.check(table, (entry, first), 0)
                self.check(table, [first, entry], 1)
                self.check(table, (last, first, entry, entry, first), 2)

    def test_duplicates(self):
        for sizes in ([6], [6, 9], [3, 1, 5], [3, 2, 1, 4], [10 ** 40, 3]):
            table = Table(sizes)
            first, last = seats_of(sizes)
            middle = (1,) + (0,) * (len(sizes) - 1)
            self.check(table, [first, first], 1)
            self.check(table, (first, last, first), 2)
            self.check(table, [first, last, last], 2)
            self.check(table, [last, first, middle, first, last, None], 3)
            self.check(table, [last, first, None, first, last], 2)
            self.check(table, [first, tuple(list(first))], 1)

    def test_a_seat_of_another_table(self):
        self.check(Table([4, 3]), [(0, 0), (2, 3)], 1)
        self.check(Table([3, 4]), [(2, 3), (3, 2)], 1)
        self.check(Table([6]), (0,), 0)
        self.check(Table([6]), (0, 1), 0)
        self.check(Table([6]), [[0]], 0)

    def test_bounds_that_hold(self):
        for sizes in SEVERAL_SEATS:
            targets = seats_of(sizes)
            self.assertEqual(reach(Table(sizes), targets, targets[1]), ("reachable",))
            self.assertEqual(reach(Table(sizes), tuple(targets), targets[0]), ("reachable",))


class WrongWitnessTest(unittest.TestCase):

    def test_other_kinds_and_forms(self):
        table = Table([6, 9])
        for witness in not_witnesses():
            assert_error(self, "InvalidWitness", -1, check_witness, table, [(0, 0)], (1, 0), witness)
            assert_error(self, "InvalidWitness", -1, check_witness, witness=witness, table=table, seat=(1, 0),
                         targets=((0, 0), (3, 3)))
            assert_error(self, "InvalidWitness", -1, value, table, witness, (1, 0))
            assert_error(self, "InvalidWitness", -1, value, seat=(1, 0), witness=witness, table=table)

    def test_forms_that_hold(self):
        table = Table([6, 9])
        for witness in ((3, (1, 2), 0), (3, (2, 2), 2), (9, (3, 1), 8), (9, (6, 8), 0), (27, (18, 24), 26),
                        (15, (10, 5), 14), (5, (0, 0), 4), (9 * 5, (15, 40), 3), (3 * HUGE, (HUGE, 2 * HUGE), 1)):
            expected = (5 * witness[1][0] + 8 * witness[1][1]) % witness[0]
            self.assertTrue(value(table, witness, (5, 8)) == expected)

    def test_a_witness_of_another_table(self):
        assert_error(self, "InvalidWitness", -1, value, Table([5]), (3, (1,), 0), (0,))
        assert_error(self, "InvalidWitness", -1, value, Table([3, 3]), (3, (1,), 0), (0, 0))
        assert_error(self, "InvalidWitness", -1, value, Table([3]), (9, (1,), 0), (0,))
        self.assertEqual(value(Table([3]), (9, (3,), 0), (2,)), 6)

    def test_the_form_comes_before_the_values(self):
        assert_error(self, "InvalidWitness", -1, check_witness, Table([6]), [(1,)], (1,), (3, (1,), 3))
        assert_error(self, "InvalidWitness", -1, check_witness, Table([6]), [(1,)], (1,), (4, (1,), 0))
        assert_error(self, "InvalidWitness", 0, check_witness, Table([6]), [(1,)], (0,), (3, (1,), 0))
        assert_error(self, "InvalidWitness", 0, check_witness, Table([6]), [(1,), (2,)], (1,), (3, (1,), 0))


class FirstWrongArgumentTest(unittest.TestCase):

    def test_moves_and_step(self):
        table = Table([6])
        for wrong in ((6,), None, Untouchable(), AlwaysEqual(), [HUGE], (HUGE,)):
            for call in (None, [], (1, 2), Untouchable()):
                assert_error(self, "InvalidSeat", wrong, table.moves, wrong, call)
                assert_error(self, "InvalidSeat", wrong, table.moves, call=call, seat=wrong)
                assert_error(self, "InvalidSeat", wrong, table.step, wrong, call, "forward")
                for direction in (None, "up", Untouchable()):
                    assert_error(self, "InvalidSeat", wrong, table.step, wrong, call, direction)
                    assert_error(self, "InvalidSeat", wrong, table.step, wrong, (0,), direction)
                    assert_error(self, "InvalidCall", call, table.step, (0,), call, direction)
                    assert_error(self, "InvalidCall", call, table.step, direction=direction, call=call, seat=(0,))

    def test_reach(self):
        table, seat = Table([6]), (6,)
        for wrong in (None, [6], Untouchable(), AlwaysEqual(), HUGE):
            for targets in (None, [], [(0,), (0,)], [(6,)], [(0,)], Untouchable()):
                assert_error(self, "InvalidTable", wrong, coset_count, wrong, targets)
                assert_error(self, "InvalidTable", wrong, reach, wrong, targets, seat)
                assert_error(self, "InvalidTable", wrong, reach, wrong, targets, (0,))
                assert_error(self, "InvalidTable", wrong, check_witness, wrong, targets, seat, None)
                assert_error(self, "InvalidTable", wrong, check_witness, wrong, targets, (0,), (3, (1,), 0))
            assert_error(self, "InvalidTable", wrong, value, wrong, None, seat)
            assert_error(self, "InvalidTable", wrong, value, wrong, None, (0,))
            assert_error(self, "InvalidTable", wrong, value, wrong, (3, (1,), 0), seat)
        for targets, index in ((None, -1), ([], -1), ([(0,), (0,)], 1), ([(6,)], 0), (Untouchable(), -1)):
            for other in (seat, (0,), None, Untouchable()):
                assert_error(self, "InvalidTargets", index, reach, table, targets, other)
                assert_error(self, "InvalidTargets", index, check_witness, table, targets, other, None)
                assert_error(self, "InvalidTargets", index, check_witness, table, targets, other, (3, (1,), 0))

    def test_seat_and_witness(self):
        table = Table([6])
        for seat in ((6,), None, Untouchable(), (HUGE,)):
            for witness in (None, (), (4, (1,), 0), (3, (1,), 1), (3, (1,), 0), Untouchable()):
                # check_witness takes the seat ahead of the witness, value the other way round.
                assert_error(self, "InvalidSeat", seat, check_witness, table, [(0,)], seat, witness)
                assert_error(self, "InvalidSeat", seat, check_witness, witness=witness, seat=seat, targets=[(0,)],
                             table=table)
            for witness in (None, (), (4, (1,), 0), Untouchable()):
                assert_error(self, "InvalidWitness", -1, value, table, witness, seat)
                assert_error(self, "InvalidWitness", -1, value, seat=seat, witness=witness, table=table)


if __name__ == "__main__":
    unittest.main()
