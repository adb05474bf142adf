"""Stage 8: how many targets are needed, right arguments, and rank witnesses with one mistake."""

import random
import unittest
from copy import deepcopy
from itertools import combinations, permutations
from math import gcd

from calledseats.marks import avoided_sets, can_avoid, check_min_targets, min_more_targets, min_targets
from calledseats.marks import minimal_targets
from calledseats.reach import coset_count, reach
from calledseats.tables import Table
from tests.support import HUGE, all_seats, assert_error, brute_reachable, not_seats, odd_part, strange_values
from tests.support import target_choices

TINY = [[1], [2], [3], [4], [5], [6], [7], [8], [9], [1, 1], [2, 2], [3, 2], [3, 3], [1, 9], [4, 2], [2, 2, 2],
        [3, 1, 3], [1, 2, 1, 3]]
SMALL = TINY + [[12], [15], [18], [27], [4, 3], [5, 2], [6, 3], [5, 5], [9, 3], [2, 3, 2], [3, 3, 2], [3, 3, 3],
                [15, 3], [1, 2, 3, 2], [3, 2, 3, 2]]
UP_TO_300 = [[300], [4, 75], [2, 15, 10], [5, 3, 5, 4], [243], [256], [289], [299], [17, 17], [9, 27], [3, 3, 3, 9],
             [3, 3, 3, 3], [5, 5, 5], [4, 4, 4, 4], [15, 15], [7, 7, 5], [6, 6, 6]]
ABOVE_300 = [[301], [7, 43], [2, 151], [5, 61], [7, 7, 7], [1, 1, 301, 1], [10 ** 20], [2, 10 ** 30, 3], [HUGE]]
P, Q, R = 10 ** 30 + 57, 10 ** 25 + 13, 10 ** 40 + 121
LARGE = [[P], [2 * P], [P, P], [P, Q], [3 * P, 5 * P], [3 * P, 5 * Q], [P * Q, Q * R, R * P], [P, P * P, 2 * P],
         [15 * P, 21 * P, 35 * Q, 64], [9 * Q, 3 * Q, 27, 8 * Q * Q], [P * Q * R] * 4, [2 ** 90, 2 ** 60],
         [3 ** 50, 9 ** 20, 3, 2 * 3 ** 7], [45 * P, 75 * P, 15 * Q, 225 * P * Q], [10 ** 60, 10 ** 55 + 5, 1, 15],
         [7 ** 40 * P, 7 ** 30 * Q, 7 ** 45, 11 ** 20], [P * 10 ** 40, Q * 10 ** 45]]


def expected_min_targets(sizes):
    """1 and the greatest number of rings with a common odd divisor greater than 1."""
    most = 0
    for many in range(1, len(sizes) + 1):
        for chosen in combinations(sizes, many):
            if odd_part(gcd(*chosen)) > 1:
                most = many
    return 1 + most


def determinant(rows):
    """By the sum over all permutations."""
    total = 0
    for order in permutations(range(len(rows))):
        swaps = sum(one > other for one, other in combinations(order, 2))
        part = (-1) ** swaps
        for row, column in zip(rows, order):
            part *= row[column]
        total += part
    return total


def first_fault(sizes, targets, count, witness):
    """The index that [8.4] names, None for a rank witness; all entries are of the right kinds."""
    modulus, rows = witness
    if modulus < 3 or modulus % 2 == 0 or len(rows) != count:
        return -1
    for index, row in enumerate(rows):
        values = {sum(weight * place for weight, place in zip(row, target)) % modulus for target in targets}
        if len(row) != len(sizes) or len(values) != 1:
            return index
        if any(not 0 <= weight < modulus or weight * size % modulus for weight, size in zip(row, sizes)):
            return index
    common = modulus
    for columns in combinations(range(len(sizes)), count):
        common = gcd(common, determinant([[row[column] for column in columns] for row in rows]))
    return None if common == 1 else count


class MinTargetsTest(unittest.TestCase):

    def test_small_tables_by_all_sets_of_targets(self):
        for sizes in SMALL:
            seats, least = all_seats(sizes), 1
            # By a shift, one of the targets may be the first seat.
            while not any(coset_count(Table(sizes), [seats[0], *chosen]) == 1
                          for chosen in combinations(seats[1:], least - 1)):
                least += 1
            self.assertEqual(min_targets(Table(sizes)), least)
            self.assertEqual(min_targets(table=Table(tuple(sizes))), expected_min_targets(sizes))

    def test_large_tables(self):
        for sizes in LARGE + ABOVE_300 + UP_TO_300:
            self.assertEqual(min_targets(Table(sizes)), expected_min_targets(sizes))
        for sizes, expected in (([P * Q * R] * 4, 5), ([P * Q, Q * R, R * P], 3), ([15, 21, 35], 3),
                                ([2 ** 90, 2 ** 60], 1), ([HUGE, 3 * HUGE, 2, HUGE], 4), ([HUGE * 15], 2)):
            self.assertEqual(min_targets(Table(sizes)), expected)

    def test_doubling_a_size_changes_nothing(self):
        for sizes in SMALL + LARGE:
            for at in range(len(sizes)):
                doubled = sizes[:at] + [2 * sizes[at]] + sizes[at + 1:]
                self.assertEqual(min_targets(Table(doubled)), min_targets(Table(sizes)))

    def test_random_sizes(self):
        chance = random.Random(1)
        for _ in range(400):
            sizes = [1] * chance.randint(1, 4)
            for _ in range(chance.randint(0, 12)):
                sizes[chance.randrange(len(sizes))] *= chance.choice((2, 2, 3, 3, 5, 7, 9, P, Q))
            self.assertEqual(min_targets(Table(sizes)), expected_min_targets(sizes))
            MinimalTargetsTest().check(sizes)
            MinMoreTargetsTest().check(sizes, MinMoreTargetsTest().drawn_targets(chance, sizes))


class MinimalTargetsTest(unittest.TestCase):

    def check(self, sizes):
        table = Table(sizes)
        made = minimal_targets(table)
        self.assertIs(type(made), list)
        self.assertEqual(len(made), expected_min_targets(sizes))
        self.assertEqual(len(set(made)), len(made))
        for seat in made:
            self.assertIs(type(seat), tuple)
            self.assertEqual(len(seat), len(sizes))
            for place, size in zip(seat, sizes):
                self.assertIs(type(place), int)
                self.assertTrue(0 <= place < size)
        self.assertTrue(coset_count(table, made) == 1)
        for at in range(len(made)):
            if len(made) > 1:
                self.assertGreater(coset_count(table, made[:at] + made[at + 1:]), 1)
        self.assertEqual(min_more_targets(table, made), (0, None))

    def test_tables(self):
        for sizes in SMALL + UP_TO_300 + LARGE + ABOVE_300[:-1]:
            with self.subTest(sizes=sizes):
                self.check(sizes)

    def test_every_seat_is_reachable(self):
        for sizes in SMALL:
            made = minimal_targets(Table(sizes))
            self.assertEqual(brute_reachable(sizes, made), set(all_seats(sizes)))

    def test_sizes_of_hundreds_of_digits(self):
        big = 10 ** 400 + 69
        for sizes in ([big], [big, big], [3 * big, 5 * big, 15, 9 * big], [big ** 2, 3 * big, big + 2, big + 4]):
            self.check(sizes)

    def test_lists_are_new(self):
        made = minimal_targets(Table([3, 15, 5]))
        copied = list(made)
        made.clear()
        self.assertEqual(minimal_targets(table=Table((3, 15, 5))), copied)


class MinMoreTargetsTest(unittest.TestCase):

    def drawn_targets(self, chance, sizes):
        """Targets whose differences are multiples of some integer, or any."""
        base = [chance.randrange(size) for size in sizes]
        found = [tuple(base)]
        for _ in range(chance.choice((0, 0, 1, 2, 3, 9))):
            factor = chance.choice((1, 1, 2, 3, 5, 15, P, Q))
            part = chance.choice((1, 1, 0))
            found.append(tuple((place + factor * chance.randrange(size) * chance.choice((part, 1))) % size
                               for place, size in zip(base, sizes)))
        return list(dict.fromkeys(found))

    def check(self, sizes, targets):
        made = min_more_targets(Table(sizes), targets)
        self.assertIs(type(made), tuple)
        count, witness = made
        self.assertIs(type(count), int)
        self.assertEqual(count == 0, coset_count(Table(sizes), targets) == 1)
        if count == 0:
            self.assertIsNone(witness)
            return made
        self.check_witness(sizes, targets, count, witness)
        return made

    def check_witness(self, sizes, targets, count, witness):
        self.assertIs(type(witness), tuple)
        modulus, rows = witness
        self.assertIs(type(modulus), int)
        self.assertIs(type(rows), list)
        for row in rows:
            self.assertIs(type(row), tuple)
            self.assertTrue(all(type(weight) is int for weight in row))
        self.assertIsNone(first_fault(sizes, targets, count, witness))
        self.assertIsNone(check_min_targets(Table(sizes), targets, count, witness))

    def test_small_tables_by_all_sets_of_added_seats(self):
        chance = random.Random(2)
        counts = set()
        for sizes in SMALL:
            seats, table = all_seats(sizes), Table(sizes)
            for targets in target_choices(sizes, chance)[::3] + [seats]:
                count, _ = self.check(sizes, targets)
                counts.add(count)
                others = [seat for seat in seats if seat not in targets]
                least = 0
                while not any(coset_count(table, targets + list(added)) == 1 for added in combinations(others, least)):
                    least += 1
                self.assertEqual(count, least)
        self.assertEqual(counts, {0, 1, 2, 3})

    def test_large_tables(self):
        chance = random.Random(3)
        counts = set()
        for sizes in LARGE + UP_TO_300 + ABOVE_300[:-1]:
            zero = (0,) * len(sizes)
            self.assertEqual(self.check(sizes, [zero])[0], min_targets(Table(sizes)) - 1)
            for _ in range(6):
                targets = self.drawn_targets(chance, sizes)
                with self.subTest(sizes=sizes, targets=targets):
                    counts.add(self.check(sizes, targets)[0])
        self.assertEqual(counts, {0, 1, 2, 3, 4})

    def test_an_added_target_decreases_the_count_by_at_most_1(self):
        chance = random.Random(4)
        for sizes in [[9, 9], [15, 45, 3], [3, 3, 3, 3], [P * Q, 3 * P, Q], [45, 75, 15, 225], [8, 2]]:
            for _ in range(12):
                targets = self.drawn_targets(chance, sizes)
                before = min_more_targets(Table(sizes), targets)[0]
                seat = tuple(chance.choice((0, 1, 3, 5)) * chance.randrange(size) % size for size in sizes)
                if seat not in targets:
                    after = min_more_targets(Table(sizes), targets + [seat])[0]
                    self.assertIn(before - after, (0, 1))

    def test_sizes_of_hundreds_of_digits(self):
        big = 10 ** 300 + 331
        for sizes, targets in (([big, big * 3], [(0, 0), (1, 5)]), ([big, big, big, big], [(0, 1, 2, 3), (7, 5, 3, 1)]),
                               ([15 * big, 9 * big, big], [(0, 0, 0), (3, 3, 0), (5, 0, big // 2)])):
            self.check(sizes, targets)

    def test_arguments_and_new_lists(self):
        targets = [(0, 0, 0), (1, 0, 3)]
        made = min_more_targets(Table([3, 15, 5]), targets)
        copied = deepcopy(made)
        made[1][1].append("x")
        self.assertEqual(min_more_targets(targets=tuple(targets), table=Table((3, 15, 5))), copied)
        self.assertEqual(targets, [(0, 0, 0), (1, 0, 3)])


class CheckMinTargetsTest(unittest.TestCase):

    def check(self, sizes, targets, count, witness):
        index = first_fault(sizes, targets, count, witness)
        if index is None:
            self.assertIsNone(check_min_targets(Table(sizes), targets, count, witness))
            self.assertIsNone(check_min_targets(witness=witness, count=count, targets=tuple(targets),
                                                table=Table(tuple(sizes))))
        else:
            assert_error(self, "InvalidWitness", index, check_min_targets, Table(sizes), targets, count, witness)
        return index

    def test_all_rows_with_small_moduli(self):
        found = set()
        for sizes, targets, moduli in (([3], [(0,)], (3, 9)), ([9], [(0,), (3,)], (3, 9)), ([3, 3], [(0, 0)], (3,)),
                                       ([3, 3], [(0, 1), (1, 2)], (3, 9)), ([15], [(2,), (5,)], (3, 5, 15)),
                                       ([3, 9], [(0, 0), (0, 3)], (3, 9)), ([5, 5], [(0, 0), (2, 1)], (5,))):
            for modulus in moduli:
                rows = [row for row in all_seats([modulus] * len(sizes))]
                for row in rows:
                    found.add(self.check(sizes, targets, 1, (modulus, [row])))
                    if len(sizes) == 2 and modulus < 9:
                        for other in rows:
                            found.add(self.check(sizes, targets, 2, (modulus, [row, other])))
        self.assertEqual(found, {None, 0, 1, 2})

    def test_one_place_changed(self):
        chance = random.Random(5)
        found = set()
        for sizes in ([3, 3], [15, 3], [9, 27, 3], [3, 3, 3, 3], [45, 75, 15, 225], [P * Q, 3 * P, 15 * Q, P],
                      [3 * HUGE, 3]):
            zero = (0,) * len(sizes)
            targets = [zero, tuple(3 * (size // 6) for size in sizes)]
            if targets[1] == zero:
                targets = [zero]
            count, witness = min_more_targets(Table(sizes), targets)
            modulus, rows = witness
            for at in range(count):
                for ring in range(len(sizes)):
                    for part in (0, 1, modulus - 1, modulus, -1, modulus // 3, chance.randrange(modulus)):
                        row = rows[at][:ring] + (part,) + rows[at][ring + 1:]
                        found.add(self.check(sizes, targets, count, (modulus, rows[:at] + [row] + rows[at + 1:])))
                for changed in (rows[:at] + rows[at + 1:], rows + [rows[at]], rows[:at] + [rows[at][:-1]] + rows[at + 1:],
                                rows[:at] + [zero] + rows[at + 1:], rows[:at] + [rows[0]] + rows[at + 1:]):
                    found.add(self.check(sizes, targets, count, (modulus, changed)))
            for other in (modulus + 2, modulus * 3, modulus + 1, 1, -3, 0, 2, 3, 5, 9, 15):
                found.add(self.check(sizes, targets, count, (other, rows)))
            self.assertIsNone(self.check(sizes, targets, count, (modulus, rows[::-1])))
            self.assertEqual(self.check(sizes, targets, 1, (modulus, rows)), None if count == 1 else -1)
        self.assertLessEqual({None, -1, 0, 1, 2, 3, 4}, found)

    def test_dependent_rows_and_moduli_that_are_no_primes(self):
        for sizes, count, witness, index in (
                ([15, 15], 2, (15, [(1, 0), (0, 1)]), None), ([15, 15], 2, (15, [(1, 0), (0, 3)]), 2),
                ([15, 15], 2, (15, [(1, 0), (0, 7)]), None), ([15, 15], 1, (15, [(5, 3)]), None),
                ([15, 15], 1, (15, [(5, 10)]), 1), ([15, 15], 1, (15, [(0, 0)]), 1),
                ([15, 15], 2, (15, [(1, 2), (2, 1)]), 2), ([15, 15], 2, (15, [(1, 2), (3, 4)]), None),
                ([9, 9], 2, (9, [(1, 0), (1, 3)]), 2), ([9, 9], 2, (9, [(1, 3), (3, 1)]), None),
                ([9, 9, 9], 2, (9, [(1, 3, 0), (2, 6, 1)]), None), ([9, 9, 9], 2, (9, [(1, 3, 0), (2, 6, 3)]), 2),
                ([3, 5], 1, (15, [(5, 3)]), None), ([3, 5], 2, (15, [(5, 3), (10, 3)]), 2),
                ([3, 5], 1, (15, [(5, 1)]), 0), ([3, 3, 3], 3, (3, [(1, 1, 0), (0, 1, 1), (1, 0, 2)]), 3),
                ([3, 3, 3], 3, (3, [(1, 1, 0), (0, 1, 1), (1, 0, 1)]), None)):
            targets = [(0,) * len(sizes)]
            self.assertEqual(first_fault(sizes, targets, count, witness), index)
            self.check(sizes, targets, count, witness)

    def test_values_of_other_kinds(self):
        table, targets = Table([3, 3]), [(0, 0)]
        good = (3, [(1, 0), (0, 1)])
        self.assertIsNone(check_min_targets(table, targets, 2, good))
        wrong = strange_values() + [0, 3, HUGE, "", "3", (), [], list(good), good[:1], good + (0,), (good,), good[1]]
        wrong += [(3, tuple(good[1])), (3, {0: (1, 0), 1: (0, 1)}), (3, "ab"), (3, None), (3, iter(good[1])), (3, 2)]
        wrong += [(3, good[1][:1]), (3, good[1] + [(0, 0)]), (3, []), (good[1], 3), (3, range(2))]
        for modulus in strange_values() + ["", "3", (), [3], -3, -1, 0, 1, 2, 4, 6, HUGE - 7]:
            wrong += [(modulus, good[1]), (modulus, [None, None])]
        for witness in wrong:
            assert_error(self, "InvalidWitness", -1, check_min_targets, table, targets, 2, witness)

    def test_rows_of_other_kinds(self):
        table, targets = Table([3, 3]), [(0, 0)]
        rows = not_seats((3, 3)) + [[1, 0], (1, 0, 0), (1,), ((1, 0),), 3, "10"]
        for row in rows:
            assert_error(self, "InvalidWitness", 0, check_min_targets, table, targets, 2, (3, [row, (0, 1)]))
            assert_error(self, "InvalidWitness", 1, check_min_targets, table, targets, 2, (3, [(1, 0), row]))
            # The first of several faults decides.
            assert_error(self, "InvalidWitness", 0, check_min_targets, table, targets, 2, (3, [row, row]))
            assert_error(self, "InvalidWitness", -1, check_min_targets, table, targets, 2, (4, [row, row]))
            assert_error(self, "InvalidWitness", -1, check_min_targets, table, targets, 2, (3, [row]))

    def test_count(self):
        for sizes in ([3], [3, 3], [3, 5, 3], [3, 3, 1, 3]):
            table, zero = Table(sizes), (0,) * len(sizes)
            for count in strange_values() + ["", "1", (1,), [1], -1, 0, len(sizes) + 1, 10 ** 30, HUGE, -HUGE]:
                for witness in (None, (3, [zero])):
                    assert_error(self, "InvalidNumber", "count", check_min_targets, table, [zero], count, witness)
            for count in range(1, len(sizes) + 1):
                assert_error(self, "InvalidWitness", -1, check_min_targets, table, [zero], count, None)
                assert_error(self, "InvalidWitness", count, check_min_targets, table, [zero], count, (3, [zero] * count))


class CanAvoidTest(unittest.TestCase):

    def test_all_sets_of_tiny_tables(self):
        for sizes in TINY:
            seats = all_seats(sizes)
            for chosen in range(2 ** len(seats)):
                avoided = [seat for at, seat in enumerate(seats) if chosen >> at & 1]
                reachable = brute_reachable(sizes, avoided) if avoided else set()
                for seat in seats[:3]:
                    made = can_avoid(Table(sizes), seat, avoided)
                    self.assertIs(made, seat not in reachable)

    def test_small_tables(self):
        chance = random.Random(6)
        for sizes in SMALL:
            seats = all_seats(sizes)
            for avoided in target_choices(sizes, chance):
                reachable, kept = brute_reachable(sizes, avoided), list(avoided)
                for seat in chance.sample(seats, min(6, len(seats))):
                    made = can_avoid(Table(sizes), seat, avoided)
                    self.assertIs(made, seat not in reachable)
                    self.assertIs(can_avoid(seats=tuple(avoided[::-1]), seat=seat, table=Table(tuple(sizes))), made)
                self.assertEqual(avoided, kept)

    def test_empty(self):
        for sizes in SMALL + LARGE + ABOVE_300:
            zero = (0,) * len(sizes)
            self.assertIs(can_avoid(Table(sizes), zero, []), True)
            self.assertIs(can_avoid(Table(sizes), zero, ()), True)
            self.assertIs(can_avoid(Table(sizes), zero, [zero]), False)

    def test_large_rings(self):
        chance = random.Random(7)
        found = {True: 0, False: 0}
        for sizes in LARGE:
            for _ in range(8):
                avoided = MinMoreTargetsTest().drawn_targets(chance, sizes)
                seat = tuple((place + chance.choice((0, 1, 15)) * chance.randrange(size)) % size
                             for place, size in zip(avoided[0], sizes))
                made = can_avoid(Table(sizes), seat, avoided)
                self.assertEqual(made, reach(Table(sizes), avoided, seat)[0] == "unreachable")
                found[made] += 1
        self.assertGreater(min(found.values()), 20)
        ring = Table([3 * P])
        self.assertIs(can_avoid(ring, (1,), [(0,), (3 * P - 3,), (3 * Q,)]), True)
        self.assertIs(can_avoid(ring, (Q * 3,), [(0,), (3 * P - 3,)]), False)


class AvoidedSetsTest(unittest.TestCase):

    def check_facts(self, sizes, seat, made):
        """The order of the sets and of the seats, and the facts of [8.7]."""
        self.assertIs(type(made), list)
        self.assertTrue(all(type(chosen) is list for chosen in made))
        self.assertEqual(made, sorted(made))
        count = Table(sizes).count()
        odd = [p for p in range(3, count + 1, 2) if count % p == 0]
        if not odd:
            self.assertEqual(made, [])
            return
        rings = sum(size % odd[0] == 0 for size in sizes)
        self.assertEqual(len(made), odd[0] ** rings - 1)
        sets = [frozenset(chosen) for chosen in made]
        self.assertEqual(len(set(sets)), len(sets))
        for chosen, members in zip(made, sets):
            self.assertEqual(chosen, sorted(members))
            self.assertEqual(len(chosen), count // odd[0])
            self.assertNotIn(seat, members)
        for one, other in combinations(sets[:40], 2):
            self.assertIn(len(one & other) * odd[0] ** 2, (0, count))

    def test_all_subsets_of_the_smallest_tables(self):
        for sizes in TINY:
            seats = all_seats(sizes)
            avoidable = {}
            for chosen in range(2 ** len(seats)):
                avoided = [seat for at, seat in enumerate(seats) if chosen >> at & 1]
                reachable = brute_reachable(sizes, avoided) if avoided else set()
                for seat in seats:
                    if seat not in reachable:
                        avoidable.setdefault(seat, []).append(avoided)
            for seat in seats:
                most = max(len(avoided) for avoided in avoidable[seat])
                expected = sorted(avoided for avoided in avoidable[seat] if len(avoided) == most and most)
                made = avoided_sets(Table(sizes), seat)
                self.assertEqual(made, expected)
                self.check_facts(sizes, seat, made)

    def test_other_tables(self):
        chance = random.Random(8)
        for sizes in SMALL + UP_TO_300:
            seats = all_seats(sizes)
            for seat in chance.sample(seats, min(3, len(seats))):
                made = avoided_sets(Table(sizes), seat)
                self.check_facts(sizes, seat, made)
                for chosen in chance.sample(made, min(4, len(made))):
                    self.assertTrue(can_avoid(Table(sizes), seat, chosen))
                    more = [other for other in seats if other not in chosen]
                    self.assertFalse(can_avoid(Table(sizes), seat, chosen + [chance.choice(more)]))

    def test_too_large(self):
        for sizes in ABOVE_300:
            zero = (0,) * len(sizes)
            assert_error(self, "TooLarge", 300, avoided_sets, Table(sizes), zero)
            seat = tuple(sizes)
            assert_error(self, "InvalidSeat", seat, avoided_sets, Table(sizes), seat)

    def test_lists_are_new(self):
        made = avoided_sets(Table([3, 6]), (1, 1))
        copied = deepcopy(made)
        made[0].append("x")
        made[1].clear()
        made.pop()
        self.assertEqual(avoided_sets(seat=(1, 1), table=Table((3, 6))), copied)


if __name__ == "__main__":
    unittest.main()
