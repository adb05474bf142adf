"""Stage 6: sums on one ring, right arguments, and sums with one mistake."""

import random
import unittest
from copy import deepcopy
from functools import lru_cache
from itertools import combinations
from math import gcd

from calledseats.layers import min_calls
from calledseats.sums import call_from_sum, check_sum, min_calls_on_ring, min_calls_two, sum_counts, two_target_sum
from calledseats.tables import Table
from tests.support import HUGE, assert_error, brute_numbers, strange_values


@lru_cache(maxsize=None)
def all_counts(total, many):
    """All tuples of so many integers >= 0 that add up to the total."""
    if many == 1:
        return ((total,),)
    return tuple((first,) + rest for first in range(total + 1) for rest in all_counts(total - first, many - 1))


def is_sum(size, targets, place, calls, counts):
    total = sum(count * target for count, target in zip(counts, targets))
    return (len(counts) == len(targets) and all(type(count) is int and count >= 0 for count in counts)
            and sum(counts) == 2 ** calls and (total - 2 ** calls * place) % size == 0)


def searched_numbers(size, targets):
    """For each place the least number of calls with a sum, searching through all counts."""
    found = {}
    for calls in range(size.bit_length() + 1):
        for counts in all_counts(2 ** calls, len(targets)):
            total = sum(count * target for count, target in zip(counts, targets))
            for place in range(size):
                if place not in found and (total - 2 ** calls * place) % size == 0:
                    found[place] = calls
    return found


def numbers_by_sumsets(size, targets):
    """For each place the least number of calls, by the sets of all sums of 2 ** calls targets."""
    def spread(places):
        # One digit of 16 bits for each place: no digit of a square overflows.
        return sum(1 << 16 * place for place in places)

    sums, found = set(targets), {}
    for calls in range(size.bit_length() + 1):
        for place in range(size):
            if 2 ** calls * place % size in sums:
                found.setdefault(place, calls)
        square = (spread(sums) ** 2).to_bytes(4 * size + 2, "little")
        sums = {at % size for at in range(2 * size) if square[2 * at] or square[2 * at + 1]}
    return found


class RingTest(unittest.TestCase):

    def check_counts(self, size, targets, place, number, all_calls):
        for calls in all_calls:
            made = sum_counts(size, targets, place, calls)
            if number is None or calls < number:
                self.assertIsNone(made)
            else:
                self.assertIs(type(made), list)
                self.assertTrue(is_sum(size, targets, place, calls, made), (size, targets, place, calls, made))
                self.assertIsNone(check_sum(size, targets, place, calls, made))

    def test_small_rings_with_all_lists_of_up_to_four_targets(self):
        for size in range(1, 9):
            for many in range(1, min(4, size) + 1):
                for targets in combinations(range(size), many):
                    self.check_with_searches(size, list(targets))

    def check_with_searches(self, size, targets):
        searched = searched_numbers(size, targets)
        numbers = brute_numbers([size], [(target,) for target in targets])
        for place in range(size):
            with self.subTest(size=size, targets=targets, place=place):
                made = min_calls_on_ring(size, targets, place)
                self.assertEqual(made, searched.get(place))
                self.assertEqual(made, numbers.get((place,)))
                self.check_counts(size, targets, place, made, range(size.bit_length() + 2))

    def test_larger_rings_in_any_order(self):
        chance = random.Random(1)
        for size in (9, 10, 11, 12, 13, 15, 16):
            for many in (1, 2, 2, 3, 4):
                self.check_with_searches(size, chance.sample(range(size), many))

    def test_the_layers_agree(self):
        chance = random.Random(2)
        for size in (17, 24, 45, 64, 97, 105, 128, 255, 256, 300):
            for many in (1, 2, 3, 40):
                targets = chance.sample(range(size), min(many, size))
                table = Table([size])
                for place in chance.sample(range(size), 9):
                    number = min_calls(table, [(target,) for target in targets], (place,))
                    self.assertEqual(min_calls_on_ring(size, targets, place), number)
                    self.check_counts(size, targets, place, number, (0, 1, 2, 3, 5, 9, 10, 39, 40))

    def test_sizes_up_to_2000(self):
        chance = random.Random(3)
        for size, targets in ((2000, [0]), (2000, [1999, 0]), (2000, [16, 3, 1019]), (1999, [0, 1]), (1536, [5]),
                              (1024, [1023]), (1997, [4, 1996]), (1995, chance.sample(range(1995), 40)),
                              (2000, chance.sample(range(2000), 40)), (2000, list(range(2000))[::-1]),
                              (1995, [3, 108, 1788]), (2000, list(range(7, 2000, 125)))):
            numbers = numbers_by_sumsets(size, targets)
            highest = max(numbers.values())
            self.assertLessEqual(highest, size.bit_length())
            places = chance.sample(range(size), 8)
            places += [place for place in range(size) if numbers.get(place) == highest][:2]
            for place in places:
                with self.subTest(size=size, targets=targets[:5], place=place):
                    self.assertEqual(min_calls_on_ring(size, targets, place), numbers.get(place))
                    self.check_counts(size, targets, place, numbers.get(place), (0, 1, highest - 1, highest, 12, 40)
                                      if highest > 0 else (0, 40))

    def test_size_1(self):
        self.assertEqual(min_calls_on_ring(1, [0], 0), 0)
        for calls in (0, 1, 5, 39, 40):
            self.assertEqual(sum_counts(1, [0], 0, calls), [2 ** calls])

    def test_limits(self):
        self.assertIsNone(min_calls_on_ring(2000, [0], 1))
        for size in (2001, 2002, 4096, 10 ** 30):
            assert_error(self, "TooLarge", 2000, min_calls_on_ring, size, [0], 0)
            for calls in (0, 40, 41, HUGE):
                assert_error(self, "TooLarge", 2000, sum_counts, size, [0, 1], 0, calls)
        for size in (1, 2, 1999, 2000):
            self.assertIsNotNone(sum_counts(size, [0], 0, 40))
            for calls in (41, 42, 1000, HUGE):
                assert_error(self, "TooLarge", 40, sum_counts, size, [0], 0, calls)
                assert_error(self, "TooLarge", 40, sum_counts, size, [0], size - 1, calls)

    def test_the_same_arguments_give_the_same_result(self):
        chance = random.Random(4)
        for size in (1, 7, 60, 97, 2000):
            targets = chance.sample(range(size), min(3, size))
            kept = list(targets)
            for place in chance.sample(range(size), min(size, 5)):
                first = sum_counts(size, targets, place, 11)
                copied = deepcopy(first)
                if first is not None:
                    first.append("x")
                self.assertEqual(sum_counts(size, targets, place, 11), copied)
                self.assertEqual(sum_counts(size, tuple(targets), place, 11), copied)
                self.assertEqual(sum_counts(calls=11, place=place, targets=tuple(targets), size=size), copied)
                self.assertEqual(min_calls_on_ring(place=place, targets=tuple(targets), size=size),
                                 min_calls_on_ring(size, targets, place))
                self.assertEqual(targets, kept)

    def test_facts(self):
        chance = random.Random(5)
        for size in (3, 5, 8, 12, 15, 21, 32, 45, 60):
            for many in (1, 2, 3):
                targets = chance.sample(range(size), many)
                numbers = [min_calls_on_ring(size, targets, place) for place in range(size)]
                factor, shift = chance.randint(2, 9), chance.randrange(size)
                units = [unit for unit in range(size) if gcd(unit, size) == 1]
                unit, more = chance.choice(units), chance.sample(range(size), 1)
                for place, number in enumerate(numbers):
                    self.assertLessEqual(number or 0, size.bit_length())
                    scaled = [factor * target for target in targets]
                    self.assertEqual(min_calls_on_ring(factor * size, scaled, factor * place), number)
                    shifted = [(target + shift) % size for target in targets]
                    self.assertEqual(min_calls_on_ring(size, shifted, (place + shift) % size), number)
                    turned = [target * unit % size for target in targets]
                    self.assertEqual(min_calls_on_ring(size, turned, place * unit % size), number)
                    other = min_calls_on_ring(size, targets + [new for new in more if new not in targets], place)
                    if number is not None:
                        self.assertLessEqual(other, number)
                        made = sum_counts(size, targets, place, number + 1)
                        self.assertIsNone(check_sum(size, targets, place, number + 2, [2 * count for count in made]))


class TwoTest(unittest.TestCase):

    def test_small_rings(self):
        for size in range(2, 21):
            for first in range(size):
                for second in range(size):
                    if first != second:
                        for place in range(size):
                            self.check_small(size, first, second, place)

    def check_small(self, size, first, second, place):
        number = min_calls_on_ring(size, [first, second], place)
        self.assertEqual(min_calls_two(size, first, second, place), number)
        made = two_target_sum(size, first, second, place)
        if number is None:
            self.assertIsNone(made)
        else:
            self.assertIs(type(made), tuple)
            calls, counts = made
            self.assertEqual(calls, number)
            self.assertIs(type(counts), list)
            self.assertTrue(is_sum(size, [first, second], place, calls, counts))

    def test_rings_of_up_to_2000_places(self):
        chance = random.Random(6)
        for size in (97, 256, 1000, 1023, 1536, 1999, 2000):
            for _ in range(40):
                first, second = chance.sample(range(size), 2)
                self.check_small(size, first, second, chance.randrange(size))

    def has_sum(self, size, first, second, place, calls):
        """Tell whether there is a sum, by the integers k with k * step = 2 ** calls * gap modulo the size."""
        step, goal = (second - first) % size, 2 ** calls * (place - first) % size
        common = gcd(step, size)
        if goal % common:
            return False
        least = goal // common * pow(step // common, -1, size // common) % (size // common)
        return least <= 2 ** calls

    def check_large(self, size, first, second, place):
        made = two_target_sum(size, first, second, place)
        self.assertEqual(min_calls_two(size, first, second, place), made and made[0])
        if made is None:
            odd = gcd(second - first, size)
            while odd % 2 == 0:
                odd //= 2
            self.assertNotEqual((place - first) % odd, 0)
            return None
        calls, counts = made
        self.assertTrue(is_sum(size, [first, second], place, calls, counts))
        if calls <= 1000:
            self.assertIsNone(check_sum(size, [first, second], place, calls, counts))
        self.assertLessEqual(calls, size.bit_length())
        self.assertTrue(calls == 0 or not self.has_sum(size, first, second, place, calls - 1))
        return calls

    def test_large_rings(self):
        chance = random.Random(7)
        p = 10 ** 35 + 69
        unreachable = 0
        for size in (10 ** 30, 2 ** 100, 3 ** 70, p, p * 2 ** 40, 15 * p, 10 ** 40 + 7, 3 ** 30 * 2 ** 60, 7 * 10 ** 200):
            for factor in (1, 2, 3, 8, 15, 2 ** 30, 3 ** 9):
                for _ in range(4):
                    common = gcd(size, factor)
                    first = chance.randrange(size)
                    second = (first + common * chance.randrange(1, size // common)) % size
                    place = (first + chance.choice((1, common)) * chance.randrange(size)) % size
                    calls = self.check_large(size, first, second, place)
                    unreachable += calls is None
                    self.check_facts(chance, size, first, second, place, calls)
        self.assertGreater(unreachable, 20)

    def check_facts(self, chance, size, first, second, place, calls):
        self.assertEqual(min_calls_two(size, second, first, place), calls)
        factor, shift = chance.choice((2, 3, 10, 2 ** 50, 10 ** 20 + 1)), chance.randrange(size)
        self.assertEqual(min_calls_two(factor * size, factor * first, factor * second, factor * place), calls)
        self.assertEqual(min_calls_two(size, (first + shift) % size, (second + shift) % size, (place + shift) % size),
                         calls)
        unit = chance.randrange(size)
        while gcd(unit, size) != 1:
            unit = chance.randrange(size)
        self.assertEqual(min_calls_two(size, first * unit % size, second * unit % size, place * unit % size), calls)

    def test_known_numbers_on_large_rings(self):
        chance = random.Random(8)
        size = 10 ** 60 + 7
        for calls in range(1, 90):
            first, second = chance.randrange(size), chance.randrange(size)
            count = chance.randrange(1, 2 ** calls, 2)
            place = (first + count * pow(2, -calls, size) * (second - first)) % size
            # Another sum with fewer calls would make a small number a multiple of the size.
            self.assertEqual(two_target_sum(size, first, second, place), (calls, [2 ** calls - count, count]))
        for place, number in ((0, 0), (1, 0), ((size + 1) // 2, 1)):
            self.assertEqual(min_calls_two(size, 0, 1, place), number)

    def test_sizes_of_hundreds_and_thousands_of_digits(self):
        chance = random.Random(9)
        for size in (10 ** 300 + 9, 2 ** 1000, 3 * 2 ** 900, 5 ** 400):
            for _ in range(3):
                self.check_large(size, chance.randrange(size), chance.randrange(size), chance.randrange(size))
        self.check_large(HUGE, 0, 1, HUGE // 3)
        self.check_large(HUGE, HUGE - 1, 10 ** 3000, 10 ** 2000)
        self.assertIsNone(min_calls_two(3 * HUGE, 0, 3, 1))

    def test_keywords_and_new_lists(self):
        made = two_target_sum(10 ** 30, 7, 10 ** 29 + 3, 10 ** 28)
        copied = deepcopy(made)
        made[1].append("x")
        self.assertEqual(two_target_sum(place=10 ** 28, second=10 ** 29 + 3, first=7, size=10 ** 30), copied)
        self.assertEqual(min_calls_two(second=10 ** 29 + 3, place=10 ** 28, size=10 ** 30, first=7), copied[0])


def drawn_sum(chance, size, many, calls):
    """Targets, a place and a sum for this number of calls; None if nothing that was drawn fits."""
    for _ in range(3000):
        cuts = sorted(chance.randint(0, 2 ** calls) for _ in range(many - 1))
        counts = [after - before for before, after in zip([0] + cuts, cuts + [2 ** calls])]
        targets, place = [chance.randrange(size) for _ in range(many)], chance.randrange(size)
        if size <= 2000:
            targets = chance.sample(range(size), many)
        # One target is put where the sum asks for it, if there is such a place.
        at = chance.choice([at for at, count in enumerate(counts) if count])
        rest = 2 ** calls * place - sum(count * target for count, target in zip(counts, targets))
        rest += counts[at] * targets[at]
        common = gcd(counts[at], size)
        if rest % common == 0:
            turn = size // common
            targets[at] = rest // common * pow(counts[at] // common, -1, turn) % turn + turn * chance.randrange(common)
            if len(set(targets)) == many:
                return targets, place, counts
    return None


class CheckSumTest(unittest.TestCase):

    def first_fault(self, size, targets, place, calls, counts):
        """The index that the document names, None for a sum."""
        if type(counts) is not list or len(counts) != len(targets):
            return -1
        for index, count in enumerate(counts):
            if type(count) is not int or count < 0:
                return index
        if sum(counts) != 2 ** calls:
            return len(targets)
        return None if is_sum(size, targets, place, calls, counts) else len(targets) + 1

    def check(self, size, targets, place, calls, counts):
        index = self.first_fault(size, targets, place, calls, counts)
        if index is None:
            self.assertIsNone(check_sum(size, targets, place, calls, counts))
        else:
            assert_error(self, "InvalidWitness", index, check_sum, size, targets, place, calls, counts)
        return index

    def test_all_counts_of_small_rings(self):
        for size in (1, 2, 3, 4, 6, 7):
            for many in range(1, min(size, 3) + 1):
                for targets in combinations(range(size), many):
                    for calls in (0, 1, 2):
                        for total in range(2 ** calls + 2):
                            for counts in all_counts(total, many):
                                for place in range(size):
                                    self.check(size, targets, place, calls, list(counts))

    def test_one_count_and_more_changed(self):
        chance = random.Random(10)
        found = set()
        for size in (7, 12, 64, 2001, 10 ** 30, 6 ** 90, 10 ** 400 + 3, HUGE):
            for many, calls in ((1, 3), (2, 0), (2, 1), (2, 40), (3, 6), (4, 100), (5, 1000), (6, 999)):
                if many == 1:
                    targets, place, counts = [size - 1], size - 1, [2 ** calls]
                elif calls == 0:
                    targets, place, counts = [0, 5], 5, [0, 1]
                else:
                    targets, place, counts = drawn_sum(chance, size, many, calls)
                self.assertIsNone(self.check(size, targets, place, calls, counts))
                for changed in self.changes(chance, counts):
                    found.add(min(self.check(size, targets, place, calls, changed) or 0, 9))
                if many > 1 and size > 7:
                    self.assertEqual(self.check(size, targets, (place + 1) % size, calls, counts) is None,
                                     2 ** calls % size == 0)
        self.assertLessEqual({-1, 1, 2, 3, 4, 5, 6, 7}, found)

    def changes(self, chance, counts):
        many = len(counts)
        found = [tuple(counts), counts[:-1], counts + [0], [], [counts], [0] * many, counts + counts]
        for at in range(many):
            for new in (-1, -counts[at] - 1, counts[at] + 1, 0, 1, True, None, 1.0, "1", [1], (), HUGE):
                found.append(counts[:at] + [new] + counts[at + 1:])
        if many > 1:
            one, other = chance.sample(range(many), 2)
            moved = list(counts)
            moved[one], moved[other] = moved[one] + 1, moved[other] - 1
            found += [moved, counts[::-1]]
            # The first of several faults decides.
            for first in (-1, True, None):
                for last in (-2, False, "", 3):
                    found.append(counts[:one] + [first] + counts[one + 1:-1] + [last])
        return found

    def test_values_of_other_kinds(self):
        for counts in strange_values() + [0, 4, HUGE, "", "53", (), (5, 3), {5: 3}, {0: 5, 1: 3}, iter([5, 3])]:
            assert_error(self, "InvalidWitness", -1, check_sum, 7, [0, 1], 3, 3, counts)
            assert_error(self, "InvalidWitness", -1, call_from_sum, 7, [0, 1], 3, counts)
        for entry in strange_values() + ["", "3", (), [], [3], -1, -HUGE]:
            for counts, index in (([entry, 3], 0), ([5, entry], 1), ([entry, entry], 0), ([5, entry, 0], -1)):
                assert_error(self, "InvalidWitness", index, check_sum, 7, [0, 1], 3, 3, counts)
                assert_error(self, "InvalidWitness", index, call_from_sum, 7, (0, 1), 3, counts)

    def test_limit_of_calls(self):
        for size in (1, 7, HUGE):
            for calls in (0, 1, 40, 41, 999, 1000):
                self.assertIsNone(check_sum(size, [0], 0, calls, [2 ** calls]))
                assert_error(self, "InvalidWitness", 1, check_sum, size, [0], 0, calls, [2 ** calls + 1])
            for calls in (1001, 1002, 10 ** 30, HUGE):
                for counts in ([0], None, [2 ** 1001]):
                    assert_error(self, "TooLarge", 1000, check_sum, size, [0], 0, calls, counts)

    def test_arguments_are_not_modified(self):
        targets, counts = [0, 1], [5, 3]
        check_sum(counts=counts, calls=3, place=3, targets=targets, size=7)
        call_from_sum(counts=counts, place=3, targets=targets, size=7)
        self.assertEqual((targets, counts), ([0, 1], [5, 3]))


class CallFromSumTest(unittest.TestCase):

    def check(self, size, targets, place, calls, counts):
        """Check the call and the two sums, and return these with their places."""
        kept = list(counts)
        made = call_from_sum(size, targets, place, counts)
        self.assertEqual(counts, kept)
        self.assertIs(type(made), tuple)
        call, forward, backward = made
        self.assertIs(type(call), int)
        self.assertTrue(0 <= call < size)
        found = [((place + call) % size, forward), ((place - call) % size, backward)]
        for after, sums in found:
            self.assertIs(type(sums), list)
            self.assertTrue(is_sum(size, targets, after, calls - 1, sums))
            if calls <= 1001:
                self.assertIsNone(check_sum(size, targets, after, calls - 1, sums))
        self.assertIsNot(forward, backward)
        self.assertEqual(call_from_sum(size, tuple(targets), place, list(counts)), made)
        return found

    def down(self, chance, size, targets, place, calls, counts):
        """Play until a target is reached, with drawn answers."""
        while calls > 0:
            place, counts = chance.choice(self.check(size, targets, place, calls, counts))
            calls -= 1
        self.assertIn(place, targets)

    def test_all_sums_of_small_rings(self):
        for size in range(1, 9):
            for many in range(1, min(size, 4) + 1):
                for targets in combinations(range(size), many):
                    for calls in (1, 2, 3):
                        for counts in all_counts(2 ** calls, many):
                            places = [place for place in range(size) if is_sum(size, targets, place, calls, counts)]
                            for place in places[:2]:
                                self.check(size, targets, place, calls, list(counts))

    def test_down_to_a_target(self):
        chance = random.Random(11)
        for size in (2, 3, 8, 12, 49, 64, 96, 2000, 2 ** 64, 3 ** 40, 6 ** 50, 10 ** 60 + 7, 2 ** 900, HUGE):
            for many in (2, 3, 5, 9):
                if many <= size // 2 + 1:
                    for calls in (1, 2, 3, 4, 5, 8, 13, 40):
                        found = drawn_sum(chance, size, many, calls)
                        if found is None:
                            self.assertLess(size, 4)
                            continue
                        targets, place, counts = found
                        self.down(chance, size, targets, place, calls, counts)

    def test_sums_of_the_other_functions(self):
        chance = random.Random(12)
        for size in (5, 30, 64, 360, 1999, 2000):
            targets = chance.sample(range(size), min(size, 6))
            place = chance.randrange(size)
            for calls in (11, 20, 40):
                counts = sum_counts(size, targets, place, calls)
                if counts is not None:
                    self.down(chance, size, targets, place, calls, counts)
        for size in (10 ** 50, 2 ** 200, 10 ** 120 + 7):
            first, second = chance.randrange(size), chance.randrange(size)
            calls, counts = two_target_sum(size, first, second, (first + 2 * (second - first)) % size)
            self.down(chance, size, [first, second], (first + 2 * (second - first)) % size, calls, counts)

    def test_many_calls_and_many_targets(self):
        chance = random.Random(13)
        for size, many, calls in ((2 ** 50, 2, 3000), (10 ** 20, 40, 1000), (3 ** 9, 30, 1500), (2000, 500, 9),
                                  (10 ** 9, 300, 60), (7, 2, 5000)):
            targets, place, counts = drawn_sum(chance, size, many, calls)
            for after, sums in self.check(size, targets, place, calls, counts):
                self.check(size, targets, after, calls - 1, sums)

    def test_totals_that_are_no_power_of_2_or_1(self):
        for counts in ([0, 0], [1, 0], [0, 1], [1, 2], [3, 0], [5, 2], [5, 4], [6, 0], [HUGE, 0], [2 ** 300, 1]):
            assert_error(self, "InvalidWitness", 2, call_from_sum, 7, [0, 1], 3, counts)
            assert_error(self, "InvalidWitness", 2, call_from_sum, 7, [0, 1], 0, counts)
        assert_error(self, "InvalidWitness", 1, call_from_sum, 7, [3], 3, [1])
        assert_error(self, "InvalidWitness", 1, call_from_sum, 1, [0], 0, [1])
        self.assertEqual(call_from_sum(1, [0], 0, [2]), (0, [1], [1]))
        self.assertEqual(call_from_sum(7, [3], 3, [2]), (0, [1], [1]))

    def test_no_congruence(self):
        for counts in ([4, 4], [8, 0], [0, 8], [2, 0], [1, 1], [2 ** 300 - 3, 3]):
            total = sum(counts)
            for place in range(7):
                if (counts[1] - total * place) % 7 == 0:
                    self.check(7, [0, 1], place, total.bit_length() - 1, counts)
                else:
                    assert_error(self, "InvalidWitness", 3, call_from_sum, 7, [0, 1], place, counts)


if __name__ == "__main__":
    unittest.main()
