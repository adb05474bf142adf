"""Stage 3: layers and plans, right arguments, and plans with one mistake."""

import random
import unittest
from copy import deepcopy

from calledseats.layers import best_call, check_plan, layers, make_plan, min_calls, plan_depths
from calledseats.reach import coset_count, reach
from calledseats.tables import Table
from tests.support import HUGE, all_seats, assert_error, assert_reduced, brute_numbers, minus, not_calls, not_seats
from tests.support import plus, strange_values, target_choices

ONE_RING = [[size] for size in range(1, 18)] + [[20], [21], [24], [32], [45]]
MORE_RINGS = [
    [1, 1], [1, 3], [3, 1], [2, 2], [2, 3], [3, 2], [3, 3], [4, 2], [6, 3], [4, 4], [5, 5], [6, 6], [9, 3], [1, 1, 1],
    [2, 3, 2], [3, 3, 3], [2, 2, 4], [1, 5, 2], [1, 1, 1, 1], [1, 3, 1, 2], [2, 2, 2, 2], [3, 2, 3, 2], [3, 1, 4, 3],
]
EXACTLY_300 = [[300], [4, 75], [3, 100], [2, 15, 10], [5, 3, 5, 4]]
ABOVE_300 = [[301], [7, 43], [2, 151], [5, 61], [7, 7, 7], [1, 1, 301, 1], [10 ** 20], [2, 10 ** 30, 3], [HUGE]]


def some_tables(seed):
    """Pairs of sizes and targets: every table above with some target lists, and with all seats as targets."""
    chance = random.Random(seed)
    found = []
    for sizes in ONE_RING + MORE_RINGS:
        choices = target_choices(sizes, chance)
        found += [(sizes, targets) for targets in chance.sample(choices, min(7, len(choices)))]
        seats = all_seats(sizes)
        found.append((sizes, seats[::-1]))
        found.append((sizes, chance.sample(seats, (len(seats) + 1) // 2)))
    return found


class BruteForceTest(unittest.TestCase):

    def check(self, sizes, targets, numbers):
        table = Table(sizes)
        self.check_layers(sizes, numbers, layers(table, targets))
        for seat in all_seats(sizes):
            self.assertEqual(min_calls(table, targets, seat), numbers.get(seat))
            self.assertEqual(reach(table, targets, seat)[0] == "reachable", seat in numbers)
            self.check_call(sizes, numbers, seat, best_call(table, targets, seat))
        self.check_plan(table, targets, numbers, make_plan(table, targets))

    def check_layers(self, sizes, numbers, made):
        highest = max(numbers.values())
        expected = [[seat for seat in all_seats(sizes) if numbers.get(seat) == number]
                    for number in range(highest + 1)]
        self.assertEqual(made, expected)
        self.assertIs(type(made), list)
        self.assertTrue(made[-1])
        for row in made:
            self.assertIs(type(row), list)

    def check_call(self, sizes, numbers, seat, call):
        if not numbers.get(seat):
            self.assertIsNone(call)
            return
        assert_reduced(self, sizes, call)
        moves = [plus(sizes, seat, call), minus(sizes, seat, call)]
        self.assertEqual(max(numbers[move] for move in moves), numbers[seat] - 1)

    def check_plan(self, table, targets, numbers, plan):
        self.assertIs(type(plan), list)
        for entry in plan:
            self.assertIs(type(entry), tuple)
            self.check_call(table.sizes(), numbers, *entry)
        self.assertIsNone(check_plan(table, targets, plan))
        depths = plan_depths(table, targets, plan)
        self.assertIs(type(depths), list)
        self.assertEqual(depths, [(seat, numbers[seat]) for seat, _ in plan])
        self.assertEqual(sorted(depths), sorted((seat, number) for seat, number in numbers.items() if number > 0))

    def test_small_tables(self):
        for sizes, targets in some_tables(1):
            with self.subTest(sizes=sizes, targets=targets):
                self.check(sizes, targets, brute_numbers(sizes, targets))

    def test_all_target_sets_of_tiny_tables(self):
        for sizes in ([5], [6], [7], [2, 3], [2, 2, 2], [3, 2]):
            seats = all_seats(sizes)
            for chosen in range(1, 2 ** len(seats)):
                targets = [seat for at, seat in enumerate(seats) if chosen >> at & 1]
                with self.subTest(sizes=sizes, targets=targets):
                    self.check(sizes, targets, brute_numbers(sizes, targets))

    def test_exactly_300_seats(self):
        chance = random.Random(2)
        for sizes in EXACTLY_300:
            seats = all_seats(sizes)
            for many in (1, 2, 5):
                targets = chance.sample(seats, many)
                with self.subTest(sizes=sizes, targets=targets):
                    numbers = brute_numbers(sizes, targets)
                    self.check_layers(sizes, numbers, layers(Table(sizes), targets))
                    self.check_plan(Table(sizes), targets, numbers, make_plan(Table(sizes), targets))
                    for seat in chance.sample(seats, 12):
                        self.assertEqual(min_calls(Table(sizes), targets, seat), numbers.get(seat))
                        self.check_call(sizes, numbers, seat, best_call(Table(sizes), targets, seat))

    def test_one_ring_by_sums(self):
        # On one ring i calls suffice if and only if 2 ** i * place is a sum of 2 ** i targets.
        for size, places in ((300, (0, 1)), (255, (3, 8, 250)), (97, (96, 4)), (64, (5,)), (48, (0, 16, 3))):
            sums, number, expected = set(places), 0, {}
            while number <= 2 * size.bit_length():
                for place in range(size):
                    if 2 ** number * place % size in sums:
                        expected.setdefault((place,), number)
                sums = {(one + other) % size for one in sums for other in sums}
                number += 1
            made = layers(Table([size]), [(place,) for place in places])
            self.assertEqual({seat: at for at, row in enumerate(made) for seat in row}, expected)

    def test_reachable_seats_are_those_of_stage_2(self):
        for sizes in ([300], [297], [15, 15], [17, 17], [256], [3, 3, 3, 11], [4, 4, 4, 4]):
            zero = (0,) * len(sizes)
            for targets in ([zero], [zero, (1,) * len(sizes)]):
                table = Table(sizes)
                made = sum(len(row) for row in layers(table, targets))
                self.assertEqual(made * coset_count(table, targets), table.count())

    def test_the_order_of_the_targets_is_free(self):
        chance = random.Random(3)
        for sizes, targets in some_tables(4):
            other = chance.sample(targets, len(targets))
            self.assertEqual(layers(Table(sizes), targets), layers(Table(sizes), other))
            for seat in all_seats(sizes)[:5]:
                self.assertEqual(min_calls(Table(sizes), targets, seat), min_calls(Table(sizes), other, seat))

    def test_too_large(self):
        for sizes in ABOVE_300:
            table, zero = Table(sizes), (0,) * len(sizes)
            last = tuple(size - 1 for size in sizes)
            for targets in ([zero], (zero, last)):
                assert_error(self, "TooLarge", 300, layers, table, targets)
                assert_error(self, "TooLarge", 300, make_plan, table, targets)
                for seat in (zero, last):
                    assert_error(self, "TooLarge", 300, min_calls, table, targets, seat)
                    assert_error(self, "TooLarge", 300, best_call, table, targets, seat)


class PlanTest(unittest.TestCase):

    def random_plan(self, chance, sizes, targets):
        """A valid plan in any order with any calls, by trying calls at random, and its depths."""
        depths = {target: 0 for target in targets}
        plan, rows = [], []
        open_seats = [seat for seat in all_seats(sizes) if seat not in depths]
        for _ in range(6 * len(open_seats)):
            seat = chance.choice(open_seats)
            goal = chance.choice(list(depths))
            other = minus(sizes, plus(sizes, seat, seat), goal)
            if seat in depths or other not in depths:
                continue
            call = minus(sizes, goal, seat)
            if chance.random() < 0.7:
                call = tuple(part + size * chance.choice((-1, 1, 7, -10 ** 25)) for part, size in zip(call, sizes))
            depths[seat] = 1 + max(depths[goal], depths[other])
            plan.append((seat, call))
            rows.append((seat, depths[seat]))
        return plan, rows

    def test_random_valid_plans(self):
        chance = random.Random(5)
        for sizes, targets in some_tables(6):
            if len(targets) == Table(sizes).count():
                self.assertEqual(plan_depths(Table(sizes), targets, []), [])
                continue
            plan, rows = self.random_plan(chance, sizes, targets)
            table = Table(sizes)
            with self.subTest(sizes=sizes, targets=targets, plan=plan):
                self.assertIsNone(check_plan(table, targets, plan))
                self.assertEqual(plan_depths(table, targets, plan), rows)
                for seat, depth in rows:
                    self.assertGreaterEqual(depth, min_calls(table, targets, seat))
                # Each part from the start is valid, too.
                for many in range(len(plan)):
                    self.assertEqual(plan_depths(table, targets, plan[:many]), rows[:many])

    def first_invalid(self, sizes, targets, plan):
        """The index of the first entry that breaks a condition, None if there is none."""
        known = list(targets)
        for index, (seat, call) in enumerate(plan):
            if seat in known or plus(sizes, seat, call) not in known or minus(sizes, seat, call) not in known:
                return index
            known.append(seat)
        return None

    def check_index(self, sizes, targets, plan):
        table, index = Table(sizes), self.first_invalid(sizes, targets, plan)
        if index is None:
            self.assertIsNone(check_plan(table, targets, plan))
        else:
            assert_error(self, "InvalidWitness", index, check_plan, table, targets, plan)
            assert_error(self, "InvalidWitness", index, plan_depths, table, targets, plan)
        return index

    def test_one_change(self):
        chance = random.Random(7)
        invalid = 0
        for sizes, targets in [(sizes, targets) for sizes, targets in some_tables(8) if len(sizes) < 4]:
            if len(targets) == Table(sizes).count():
                continue
            plan, _ = self.random_plan(chance, sizes, targets)
            seats = all_seats(sizes)
            for at in range(len(plan)):
                seat, call = plan[at]
                changed = [
                    plan[:at] + plan[at + 1:],
                    plan[:at] + [plan[at]] + plan[at:],
                    plan + [plan[at]],
                    [plan[at]] + plan[:at] + plan[at + 1:],
                    plan[:at] + plan[at + 1:] + [plan[at]],
                    plan[:at] + [(seat, chance.choice(seats))] + plan[at + 1:],
                    plan[:at] + [(chance.choice(seats), call)] + plan[at + 1:],
                    plan[:at] + [(chance.choice(targets), (0,) * len(sizes))] + plan[at:],
                    plan[:at] + [(seat, (0,) * len(sizes))] + plan[at + 1:],
                ]
                for other in changed:
                    invalid += self.check_index(sizes, targets, other) is not None
        self.assertGreater(invalid, 1000)

    def test_entries_of_other_forms(self):
        sizes, targets = [4, 3], [(0, 0)]
        table = Table(sizes)
        good = [((2, 0), (2, 0)), ((1, 0), (-1, 3)), ((3, 0), (5, 0))]
        self.assertEqual(plan_depths(table, targets, good), [((2, 0), 1), ((1, 0), 2), ((3, 0), 2)])
        wrong = strange_values() + [0, HUGE, "", "ab", (), [], list(good[0]), good[0][:1], good[0] + (0,), (good[0],)]
        wrong += [good, good[0][0], {good[0]: 1}, ((2, 0), (2, 0), None), [(2, 0), (2, 0)]]
        wrong += [((1, 0), call) for call in not_calls(2)]
        wrong += [(seat, (1, 0)) for seat in not_seats(sizes)]
        for entry in wrong:
            for at in range(4):
                plan = good[:at] + [entry] + good[at:]
                assert_error(self, "InvalidWitness", at, check_plan, table, targets, plan)
                assert_error(self, "InvalidWitness", at, plan_depths, table, targets, plan + [None, plan])

    def test_the_plan_is_no_list(self):
        table = Table([4])
        good = (((2,), (2,)),)
        wrong = strange_values() + [0, HUGE, "", "ab", (), good, good[0], iter(good), {good[0]: 1}, {good[0]}]
        for plan in wrong:
            assert_error(self, "InvalidWitness", -1, check_plan, table, [(0,)], plan)
            assert_error(self, "InvalidWitness", -1, plan_depths, table, [(0,)], plan)
        self.assertEqual(plan_depths(table, [(0,)], list(good)), [((2,), 1)])

    def test_a_target_and_the_own_seat(self):
        table = Table([4])
        for plan, index in (
                ([((0,), (0,))], 0), ([((0,), (2,))], 0), ([((2,), (0,))], 0), ([((2,), (2,)), ((2,), (2,))], 1),
                ([((2,), (2,)), ((2,), (0,))], 1), ([((2,), (2,)), ((1,), (1,)), ((0,), (1,))], 2),
                ([((2,), (2,)), ((3,), (1,)), ((1,), (0,))], 2), ([((1,), (1,)), ((2,), (2,))], 0)):
            assert_error(self, "InvalidWitness", index, check_plan, table, [(0,)], plan)
            assert_error(self, "InvalidWitness", index, plan_depths, table, [(0,)], plan)
        self.assertIsNone(check_plan(table, [(0,)], []))
        self.assertEqual(plan_depths(table, [(0,)], []), [])

    def test_large_rings(self):
        size = 10 ** 20
        for sizes in ([size], [size, size + 2], [3, size, 1, size - 4]):
            chance = random.Random(9)
            table = Table(sizes)
            seat = tuple(size // 3 for size in sizes)
            far = tuple(int(ring == sizes.index(max(sizes))) for ring in range(len(sizes)))
            targets = [seat, plus(sizes, seat, tuple(2 ** 40 * part for part in far))]
            depths = {target: 0 for target in targets}
            plan, rows = [], []
            step = 2 ** 39
            while step >= 2 ** 30:
                for goal in sorted(depths):
                    middle = plus(sizes, goal, tuple(step * part for part in far))
                    ends = plus(sizes, middle, tuple(step * part for part in far))
                    if middle in depths or ends not in depths:
                        continue
                    sign = chance.choice((1, -1))
                    call = tuple(sign * step * part + chance.choice((0, ring, -9 * ring))
                                 for part, ring in zip(far, sizes))
                    depths[middle] = 1 + max(depths[goal], depths[ends])
                    plan.append((middle, call))
                    rows.append((middle, depths[middle]))
                step //= 2
            self.assertGreater(len(plan), 1000)
            self.assertIsNone(check_plan(table, targets, plan))
            self.assertEqual(plan_depths(table, targets, plan), rows)
            removed = plan[:5] + plan[6:]
            index = self.first_invalid_fast(sizes, targets, removed)
            assert_error(self, "InvalidWitness", index, check_plan, table, targets, removed)
            assert_error(self, "InvalidWitness", 700, check_plan, table, targets, plan[:700] + [plan[3]] + plan[700:])
            seat, call = plan[400]
            wrong = plan[:400] + [(seat, plus(sizes, call, far))] + plan[401:]
            assert_error(self, "InvalidWitness", 400, plan_depths, table, targets, wrong)

    def first_invalid_fast(self, sizes, targets, plan):
        known = set(targets)
        for index, (seat, call) in enumerate(plan):
            if plus(sizes, seat, call) not in known or minus(sizes, seat, call) not in known:
                return index
            known.add(seat)
        return None

    def test_sizes_of_thousands_of_digits(self):
        table = Table([2 * HUGE])
        plan = [((HUGE,), (HUGE,)), ((HUGE + 1,), (2 - 5 * HUGE,))]
        self.assertTrue(plan_depths(table, [(0,), (2,)], plan[:1]) == [((HUGE,), 1)])
        assert_error(self, "InvalidWitness", 1, check_plan, table, [(0,), (2,)], plan)
        plan[1] = ((HUGE + 1,), (1 - 5 * HUGE,))
        self.assertTrue(plan_depths(table, [(0,), (2,)], plan) == [((HUGE,), 1), ((HUGE + 1,), 1)])


class ArgumentsTest(unittest.TestCase):

    def test_lists_tuples_and_keywords(self):
        for sizes, targets in some_tables(10)[::9]:
            expected = self.results(Table(list(sizes)), list(targets), True)
            for table in (Table(sizes), Table(tuple(sizes))):
                for given in (list(targets), tuple(targets)):
                    kept = deepcopy(given)
                    self.assertEqual(self.results(table, given, True), expected)
                    self.assertEqual(self.results(table, given, False), expected)
                    self.assertEqual(given, kept)
                    self.assertEqual(table.sizes(), tuple(sizes))

    def results(self, table, targets, by_position):
        seats = all_seats(table.sizes())
        if by_position:
            plan = make_plan(table, targets)
            return [layers(table, targets), plan, plan_depths(table, targets, plan), check_plan(table, targets, plan),
                    [min_calls(table, targets, seat) for seat in seats],
                    [best_call(table, targets, seat) for seat in seats]]
        plan = make_plan(targets=targets, table=table)
        return [layers(targets=targets, table=table), plan, plan_depths(plan=plan, targets=targets, table=table),
                check_plan(table=table, plan=plan, targets=targets),
                [min_calls(seat=seat, targets=targets, table=table) for seat in seats],
                [best_call(targets=targets, seat=seat, table=table) for seat in seats]]

    def test_returned_lists_are_new(self):
        table, targets = Table([12]), [(0,), (1,)]
        made = layers(table, targets)
        kept = deepcopy(made)
        for row in made:
            row.append("x")
        made.append("x")
        self.assertEqual(layers(table, targets), kept)
        plan = make_plan(table, targets)
        depths = plan_depths(table, targets, plan)
        kept_plan, kept_depths = list(plan), list(depths)
        depths.append("x")
        self.assertEqual(plan, kept_plan)
        plan.reverse()
        self.assertEqual(make_plan(table, targets), kept_plan)
        self.assertEqual(plan_depths(table, targets, kept_plan), kept_depths)
        self.assertEqual(kept_plan, make_plan(table, targets))

    def test_targets_are_read_at_each_call(self):
        table, targets = Table([9]), [(0,)]
        self.assertEqual(layers(table, targets), [[(0,)]])
        targets.append((3,))
        self.assertEqual(layers(table, targets), [[(0,), (3,)], [(6,)]])
        self.assertIsNone(min_calls(table, targets, (1,)))
        targets.append((1,))
        self.assertIsNotNone(min_calls(table, targets, (2,)))


if __name__ == "__main__":
    unittest.main()
