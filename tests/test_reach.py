"""Stage 2: reachability, right arguments."""

import random
import unittest
from copy import deepcopy
from itertools import combinations
from math import gcd

from calledseats.reach import check_witness, coset_count, reach, value
from calledseats.tables import Table
from tests.support import all_seats, all_witnesses, assert_error, assert_witness, brute_free_shifts
from tests.support import brute_reachable, minus, odd_part, plain_value, plus, target_choices

ONE_RING = [[size] for size in range(1, 19)] + [[21], [24], [27], [30], [45]]
MORE_RINGS = [
    [1, 1], [1, 3], [3, 1], [2, 3], [3, 2], [3, 3], [4, 2], [6, 3], [3, 6], [9, 3], [3, 9], [5, 5], [6, 6], [10, 5],
    [1, 1, 1], [3, 1, 3], [2, 3, 2], [3, 3, 3], [2, 2, 3], [1, 5, 5], [6, 2, 3], [1, 1, 1, 1], [1, 3, 1, 2],
    [2, 2, 2, 2], [3, 2, 3, 2], [3, 3, 1, 3], [1, 2, 3, 5],
]


class BruteForceTest(unittest.TestCase):

    def check(self, sizes, targets):
        table = Table(sizes)
        seats = all_seats(sizes)
        reachable = brute_reachable(sizes, targets)
        shifts = brute_free_shifts(sizes, targets)
        made = coset_count(table, targets)
        self.assertIs(type(made), int)
        self.assertEqual(made * len(reachable), table.count())
        self.assertEqual(made * len(shifts), table.count())
        self.assertEqual(made % 2, 1)
        for seat in seats:
            self.assertEqual(minus(sizes, seat, targets[-1]) in shifts, seat in reachable)
            result = reach(table, targets, seat)
            self.assertIs(type(result), tuple)
            if seat in reachable:
                self.assertEqual(result, ("reachable",))
            else:
                self.assertEqual(len(result), 2)
                self.assertEqual(result[0], "unreachable")
                assert_witness(self, sizes, targets, seat, result[1])
                self.assertIsNone(check_witness(table, targets, seat, result[1]))

    def test_one_ring_all_single_targets_and_pairs(self):
        for sizes in ONE_RING[:12]:
            seats = all_seats(sizes)
            for many in (1, 2):
                for targets in combinations(seats, many):
                    with self.subTest(sizes=sizes, targets=targets):
                        self.check(sizes, targets)

    def test_one_ring(self):
        chance = random.Random(1)
        for sizes in ONE_RING:
            for targets in target_choices(sizes, chance):
                with self.subTest(sizes=sizes, targets=targets):
                    self.check(sizes, targets)

    def test_more_rings(self):
        chance = random.Random(2)
        for sizes in MORE_RINGS:
            for targets in target_choices(sizes, chance):
                with self.subTest(sizes=sizes, targets=targets):
                    self.check(sizes, targets)

    def test_all_pairs_on_two_rings(self):
        for sizes in ([3, 3], [2, 3], [6, 3]):
            for targets in combinations(all_seats(sizes), 2):
                with self.subTest(sizes=sizes, targets=targets):
                    self.check(sizes, targets)

    def test_triples_on_nine_by_three(self):
        seats = all_seats([9, 3])
        for one, other in combinations(seats[1:], 2):
            targets = [(0, 0), one, other]
            count = coset_count(Table([9, 3]), targets)
            self.assertEqual(count * len(brute_free_shifts([9, 3], targets)), 27)

    def test_all_seats_are_targets(self):
        for sizes in ([1], [6], [3, 3], [2, 3, 2], [1, 2, 3, 2]):
            seats = all_seats(sizes)
            self.assertEqual(coset_count(Table(sizes), seats), 1)
            self.assertEqual(coset_count(Table(sizes), tuple(seats[::-1])), 1)
            for seat in seats:
                self.assertEqual(reach(Table(sizes), seats, seat), ("reachable",))


class KnownResultsTest(unittest.TestCase):

    def test_powers_of_two(self):
        for sizes in ([1], [2], [64], [2 ** 200], [4, 8], [1, 2, 4, 2 ** 90]):
            last = tuple(size - 1 for size in sizes)
            zero = (0,) * len(sizes)
            self.assertEqual(coset_count(Table(sizes), [last]), 1)
            self.assertEqual(reach(Table(sizes), [last], zero), ("reachable",))

    def test_single_target(self):
        for sizes in ([3], [12], [45], [9, 6], [5, 3, 7], [7, 1, 14, 4], [10 ** 40], [3 ** 50, 2 ** 60 * 5, 7, 1]):
            expected = 1
            for size in sizes:
                expected *= odd_part(size)
            last = tuple(size - 1 for size in sizes)
            self.assertEqual(coset_count(Table(sizes), [last]), expected)

    def test_one_large_ring(self):
        odd = 3 ** 30 * 5 ** 12 * 7 ** 5 * 1000003
        size = odd * 2 ** 45
        table = Table([size])
        for gap in (1, 2, 3, 2 ** 50, 3 ** 10, 3 ** 31, 3 * 5 * 7 * 64, 5 ** 12, 1000003 * 9, size // 7, size // 2,
                    size - 1):
            base = size - 17
            targets = [(base,), ((base + gap) % size,)]
            count = gcd(odd, gap)
            self.assertEqual(coset_count(table, targets), count)
            self.assertEqual(coset_count(table, targets[::-1]), count)
            for step in (0, 1, 2, 3, gap, 3 * gap, size // 2, count, count + 1, 5 * count, 10 ** 20):
                seat = ((base + step) % size,)
                result = reach(table, targets, seat)
                if step % count == 0:
                    self.assertEqual(result, ("reachable",))
                else:
                    self.assertEqual(result[0], "unreachable")
                    assert_witness(self, [size], targets, seat, result[1])
                    self.assertIsNone(check_witness(table, targets, seat, result[1]))

    def test_four_equal_rings_of_prime_size(self):
        p = 2 ** 127 - 1
        table = Table([p] * 4)
        vectors = [(1, 2, 3, 4), (5, p - 6, 7, 8), (p // 2, 10, 11, 12), (13, 14, 15, p // 3)]
        for many in range(5):
            targets = [(0, 0, 0, 0)] + vectors[:many]
            self.assertEqual(coset_count(table, targets), p ** (4 - many))
            dependent = plus([p] * 4, targets[-1], targets[many // 2])
            self.assertEqual(reach(table, targets, dependent), ("reachable",))
            for vector in vectors[many:]:
                result = reach(table, targets, vector)
                self.assertEqual(result[0], "unreachable")
                assert_witness(self, [p] * 4, targets, vector, result[1])

    def test_dependent_targets_add_nothing(self):
        p = 10 ** 45 + 9
        targets = [(1, 1, 1)] + [(1 + k, 1 + 2 * k, 1 + 3 * k) for k in range(1, 40)]
        self.assertEqual(coset_count(Table([p, p, p]), targets), p ** 2)
        self.assertEqual(coset_count(Table([3 * p, 3 * p, p]), targets), 9 * p ** 2 // 3)

    def test_rings_with_different_common_divisors(self):
        sizes = [3 ** 4 * 2, 3 ** 2 * 5, 5 ** 3, 7 * 3 * 5]
        # One difference divides the product of the odd parts by its order there.
        self.assertEqual(coset_count(Table(sizes), [(0, 0, 0, 0), (1, 0, 0, 0)]), 9 * 5 * 125 * 105)
        self.assertEqual(coset_count(Table(sizes), [(0, 0, 0, 0), (1, 1, 0, 0)]), 9 * 125 * 105)
        self.assertEqual(coset_count(Table(sizes), [(0, 0, 0, 0), (81, 0, 0, 0)]), 81 * 45 * 125 * 105)
        self.assertEqual(coset_count(Table(sizes), [(0, 0, 0, 0), (1, 1, 1, 1)]), 45 * 15)
        self.assertEqual(coset_count(Table(sizes), [(0, 0, 0, 0), (9, 3, 5, 15)]),
                         81 * 45 * 125 * 105 // (9 * 25 * 7))

    def test_random_large_tables(self):
        chance = random.Random(3)
        primes = [2, 2, 3, 3, 5, 7, 11, 2 ** 61 - 1]
        for _ in range(60):
            sizes = [random_size(chance, primes) for _ in range(chance.randint(1, 4))]
            targets = distinct([random_seat(chance, sizes) for _ in range(chance.randint(1, 4))])
            table = Table(sizes)
            shift = tuple(chance.choice((0, 1, 2, 3)) * odd_part(size) % size for size in sizes)
            seat = plus(sizes, targets[0], shift)
            for one in targets:
                for _ in range(chance.randint(0, 5)):
                    seat = plus(sizes, seat, minus(sizes, one, targets[-1]))
            self.assertEqual(reach(table, targets, seat), ("reachable",))
            for _ in range(4):
                self.check_random_seat(chance, sizes, targets)

    def check_random_seat(self, chance, sizes, targets):
        seat = random_seat(chance, sizes)
        table = Table(sizes)
        result = reach(table, targets, seat)
        # One more target keeps the number of sets if and only if it is reachable.
        same = coset_count(table, distinct(targets + [seat])) == coset_count(table, targets)
        self.assertEqual(result[0], "reachable" if same else "unreachable")
        if not same:
            assert_witness(self, sizes, targets, seat, result[1])
            self.assertIsNone(check_witness(table, targets, seat, result[1]))

    def test_sizes_of_thousands_of_digits(self):
        size = 3 ** 9000
        table = Table([size, 2 ** 9000])
        targets = [(0, 1), (3 ** 20, 0)]
        self.assertEqual(coset_count(table, targets), 3 ** 20)
        self.assertEqual(reach(table, targets, (size - 3 ** 20, 7)), ("reachable",))
        result = reach(table, targets, (size - 3 ** 19, 7))
        self.assertEqual(result[0], "unreachable")
        assert_witness(self, [size, 2 ** 9000], targets, (size - 3 ** 19, 7), result[1])

    def test_many_targets(self):
        targets = [(15 * k, 25 * k) for k in range(3000)]
        table = Table([45000, 75000])
        self.assertEqual(coset_count(table, targets), 5625 * 9375 // 375)
        result = reach(table, targets, (1, 0))
        assert_witness(self, [45000, 75000], targets, (1, 0), result[1])


def random_size(chance, primes):
    size = 1
    for _ in range(chance.randint(0, 5)):
        size *= chance.choice(primes)
    return size


def random_seat(chance, sizes):
    return tuple(chance.choice((1, 3, 5, 9)) * chance.randrange(size) % size for size in sizes)


def distinct(seats):
    return list(dict.fromkeys(seats))


class ArgumentsTest(unittest.TestCase):

    def test_lists_tuples_and_keywords_give_the_same(self):
        for sizes, targets, seat in SAMPLES:
            expected = reach(Table(sizes), targets, seat)
            count = coset_count(Table(sizes), targets)
            for given in (list(targets), tuple(targets)):
                for table in (Table(list(sizes)), Table(tuple(sizes))):
                    self.assertEqual(reach(table, given, seat), expected)
                    self.assertEqual(reach(table=table, targets=given, seat=seat), expected)
                    self.assertEqual(reach(seat=seat, targets=given, table=table), expected)
                    self.assertEqual(coset_count(table, given), count)
                    self.assertEqual(coset_count(table=table, targets=given), count)
                    if len(expected) == 2:
                        witness = expected[1]
                        self.assertIsNone(check_witness(table, given, seat, witness))
                        self.assertIsNone(check_witness(witness=witness, seat=seat, targets=given, table=table))
                        self.assertEqual(value(table=table, witness=witness, seat=seat), plain_value(witness, seat))

    def test_arguments_are_not_modified(self):
        for sizes, targets, seat in SAMPLES:
            given = list(targets)
            kept = deepcopy(given)
            table = Table(sizes)
            result = reach(table, given, seat)
            coset_count(table, given)
            if len(result) == 2:
                check_witness(table, given, seat, result[1])
            self.assertEqual(given, kept)
            self.assertEqual(table.sizes(), tuple(sizes))

    def test_every_call_stands_alone(self):
        table = Table([6, 9])
        targets = [(0, 0)]
        self.assertEqual(coset_count(table, targets), 27)
        targets.append((1, 0))
        self.assertEqual(coset_count(table, targets), 9)
        targets.append((0, 1))
        self.assertEqual(coset_count(table, targets), 1)
        self.assertEqual(coset_count(Table([6]), [(0,)]), 3)
        self.assertEqual(coset_count(table, [(0, 0)]), 27)
        self.assertEqual(reach(table, targets, (1, 1)), ("reachable",))
        self.assertEqual(reach(table, targets[:1], (1, 1))[0], "unreachable")


SAMPLES = [
    ([6], [(0,)], (1,)), ([6], [(0,)], (3,)), ([1], [(0,)], (0,)), ([15], [(14,), (2,)], (13,)),
    ([3, 3], [(0, 0), (1, 1)], (0, 1)), ([3, 9, 5], [(0, 0, 0), (1, 3, 0), (2, 2, 2)], (1, 1, 1)),
    ([2, 6, 10, 30], [(0, 0, 0, 0), (1, 2, 3, 4)], (1, 1, 1, 1)), ([10 ** 30], [(0,)], (7,)),
]


class WitnessTest(unittest.TestCase):

    def check_all(self, sizes, targets, seats, moduli):
        table = Table(sizes)
        for witness in all_witnesses(sizes, moduli):
            wrong = [index for index, target in enumerate(targets) if plain_value(witness, target) != witness[2]]
            for seat in seats:
                self.assertEqual(value(table, witness, seat), plain_value(witness, seat))
                if wrong:
                    assert_error(self, "InvalidWitness", wrong[0], check_witness, table, targets, seat, witness)
                elif plain_value(witness, seat) == witness[2]:
                    assert_error(self, "InvalidWitness", len(targets), check_witness, table, targets, seat, witness)
                else:
                    self.assertIsNone(check_witness(table, targets, seat, witness))

    def test_every_witness_of_small_tables(self):
        cases = [
            ([6], [(0,)], [3, 5, 9, 15]), ([6], [(1,), (4,), (2,)], [3, 9]), ([4], [(1,), (3,)], [3, 5, 7]),
            ([1], [(0,)], [3, 5]), ([15], [(0,), (5,), (10,), (3,)], [3, 5, 15, 45]), ([9], [(2,), (8,)], [3, 9, 27]),
            ([3, 3], [(0, 0), (1, 1), (2, 1)], [3, 9]), ([4, 3], [(0, 0), (3, 0)], [3, 5]),
            ([3, 1, 5], [(0, 0, 0), (0, 0, 1)], [3, 5, 15]), ([2, 3, 1, 3], [(0, 0, 0, 0), (1, 1, 0, 2)], [3]),
        ]
        for sizes, targets, moduli in cases:
            with self.subTest(sizes=sizes):
                self.check_all(sizes, targets, all_seats(sizes), moduli)
                self.check_all(sizes, tuple(targets), all_seats(sizes)[:2], moduli)

    def test_at_most_one_move_has_the_residue(self):
        for sizes, modulus in (([9], 9), ([3, 6], 3)):
            table = Table(sizes)
            for witness in all_witnesses(sizes, [modulus]):
                for seat in all_seats(sizes):
                    if value(table, witness, seat) == witness[2]:
                        continue
                    for call in all_seats(sizes):
                        values = [value(table, witness, move) for move in table.moves(seat, call)]
                        self.assertLessEqual(values.count(witness[2]), 1)

    def test_first_wrong_target(self):
        table = Table([15])
        targets = [(0,), (3,), (6,), (9,), (4,), (7,)]
        assert_error(self, "InvalidWitness", 4, check_witness, table, targets, (1,), (3, (1,), 0))
        assert_error(self, "InvalidWitness", 0, check_witness, table, targets, (1,), (3, (1,), 1))
        assert_error(self, "InvalidWitness", 1, check_witness, table, targets, (1,), (5, (1,), 0))
        assert_error(self, "InvalidWitness", 4, check_witness, table, targets, (0,), (3, (1,), 0))
        assert_error(self, "InvalidWitness", 4, check_witness, table, targets[:4], (0,), (3, (1,), 0))

    def test_large_witness(self):
        p = 2 ** 127 - 1
        table = Table([2 * p, 3 * p])
        witness = (3 * p, (15, p + 1), 7)
        self.assertEqual(value(table, witness, (2 * p - 1, 3 * p - 1)), (-15 - p - 1) % (3 * p))
        target = (0, (7 * pow(p + 1, -1, 3 * p)) % (3 * p))
        self.assertIsNone(check_witness(table, [target], (1, 0), witness))
        assert_error(self, "InvalidWitness", 1, check_witness, table, [target], target, witness)
        assert_error(self, "InvalidWitness", 0, check_witness, table, [(1, 0), target], target, witness)

    def test_all_weights_may_be_zero(self):
        self.assertEqual(value(Table([4, 2]), (3, (0, 0), 2), (3, 1)), 0)
        assert_error(self, "InvalidWitness", 1, check_witness, Table([4]), [(0,)], (1,), (3, (0,), 0))
        assert_error(self, "InvalidWitness", 0, check_witness, Table([4]), [(0,)], (1,), (3, (0,), 1))


if __name__ == "__main__":
    unittest.main()
