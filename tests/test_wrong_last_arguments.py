"""Wrong arguments of stages 6 to 8: the class of the error, its value, and which argument decides."""

import unittest

from calledseats.marks import avoided_sets, can_avoid, check_min_targets, min_more_targets, min_targets
from calledseats.marks import minimal_targets
from calledseats.sums import call_from_sum, check_sum, min_calls_on_ring, min_calls_two, sum_counts, two_target_sum
from calledseats.tables import Table
from calledseats.tours import check_end, kept_empty, max_more, max_visited, run_tour, tour_call
from tests.support import AlwaysEqual, HUGE, Untouchable, assert_error, not_integers, not_limits, not_seats
from tests.support import not_strategies, not_tables, not_target_lists, not_witnesses

SEVERAL = [[1], [6], [4, 2], [6, 9], [2, 1, 3], [3, 2, 1, 4]]
LARGE = [[301], [7, 43], [10 ** 40, 3], [2, 2, 2, 38], [HUGE]]
STRANGE = [None, Untouchable(), AlwaysEqual(), 1.5, {HUGE: []}]

# Each function with arguments that are valid for a ring of 7 places.
ON_RINGS = {
    min_calls_on_ring: {"size": 7, "targets": [0, 1], "place": 3},
    sum_counts: {"size": 7, "targets": [0, 1], "place": 3, "calls": 3},
    check_sum: {"size": 7, "targets": [0, 1], "place": 3, "calls": 3, "counts": [5, 3]},
    call_from_sum: {"size": 7, "targets": [0, 1], "place": 3, "counts": [5, 3]},
    min_calls_two: {"size": 7, "first": 0, "second": 1, "place": 3},
    two_target_sum: {"size": 7, "first": 0, "second": 1, "place": 3},
}
ON_TABLES = {
    max_visited: ["table"], kept_empty: ["table", "visited", "seat"], tour_call: ["table", "visited", "seat"],
    run_tour: ["table", "seat", "responder", "limit"], check_end: ["table", "visited", "seat", "witness"],
    max_more: ["table", "visited", "seat"], min_targets: ["table"], minimal_targets: ["table"],
    min_more_targets: ["table", "targets"], check_min_targets: ["table", "targets", "count", "witness"],
    can_avoid: ["table", "seat", "seats"], avoided_sets: ["table", "seat"],
}
SMALL_ONLY = [max_visited, kept_empty, tour_call, run_tour, check_end, avoided_sets]
ERRORS = {
    "table": "InvalidTable", "visited": "InvalidTargets", "seat": "InvalidSeat", "responder": "InvalidStrategy",
    "limit": "InvalidNumber", "witness": "InvalidWitness", "targets": "InvalidTargets", "count": "InvalidNumber",
    "seats": "InvalidTargets", "size": "InvalidNumber", "first": "InvalidNumber", "second": "InvalidNumber",
    "place": "InvalidNumber", "calls": "InvalidNumber", "counts": "InvalidWitness",
}


def on_table(function, sizes, **changed):
    """Arguments in the order of the parameters, with some of them changed. Those that are not fit a fresh table."""
    zero = (0,) * len(sizes)
    made = {"table": Table(sizes), "visited": [], "seat": zero, "responder": ["forward"], "limit": 3,
            "witness": (3, zero, 1), "targets": [zero], "count": 1, "seats": [zero]}
    made = {name: made[name] for name in ON_TABLES[function]}
    made.update(changed)
    return made


def stored_by(name, value):
    """What the error stores for a value of a wholly different kind."""
    if ERRORS[name] == "InvalidNumber":
        return name
    if ERRORS[name] in ("InvalidTargets", "InvalidWitness"):
        return -1
    return value


def not_visited_lists():
    return [other for other in not_target_lists() if other.__class__ not in (list, tuple)]


class CheckingCase(unittest.TestCase):

    def check(self, name, stored, function, made):
        """Assert the error by position, by keyword, and by keywords in the opposite order."""
        assert_error(self, name, stored, function, *made.values())
        assert_error(self, name, stored, function, **made)
        assert_error(self, name, stored, function, **dict(reversed(list(made.items()))))

    def check_first_decides(self, function, made, names):
        """Each argument is wrong together with all those from some later one on."""
        for at, first in enumerate(names):
            for wrong in STRANGE:
                for later in range(at + 1, len(names) + 1):
                    changed = {**made, **{name: wrong for name in [first] + names[later:]}}
                    self.check(ERRORS[first], stored_by(first, wrong), function, changed)


class RingArgumentsTest(CheckingCase):

    def test_the_valid_arguments_are_valid(self):
        for function, made in ON_RINGS.items():
            function(**made)
            function(*made.values())

    def with_argument(self, name):
        return [(function, made) for function, made in ON_RINGS.items() if name in made]

    def test_size(self):
        for function, made in ON_RINGS.items():
            for size in not_integers() + [0, -1, -7, -HUGE]:
                self.check("InvalidNumber", "size", function, {**made, "size": size})

    def test_targets(self):
        for function, made in self.with_argument("targets"):
            for at in range(len(not_target_lists())):
                # Each call gets a value of its own: an iterator would be used up.
                self.check("InvalidTargets", -1, function, {**made, "targets": not_target_lists()[at]})
            for entry in not_integers() + [-1, 7, 8, HUGE, -HUGE]:
                for targets, index in (([entry], 0), ((0, entry), 1), ([1, 0, entry, entry], 2), ((entry, 0, 0), 0)):
                    self.check("InvalidTargets", index, function, {**made, "targets": targets})
            for targets, index in (([0, 0], 1), ((0, 1, 0), 2), ([6, 5, 5, None], 2), ([1, True], 1), ([False, 0], 0)):
                self.check("InvalidTargets", index, function, {**made, "targets": targets})
            self.check("InvalidTargets", 0, function, {**made, "size": 1, "targets": [1, 0], "place": 0})

    def test_places(self):
        for name in ("place", "first", "second"):
            for function, made in self.with_argument(name):
                for place in not_integers() + [-1, -7, 7, 8, HUGE, -HUGE]:
                    self.check("InvalidNumber", name, function, {**made, name: place})

    def test_second_is_not_first(self):
        for function in (min_calls_two, two_target_sum):
            for size in (1, 7, 10 ** 30, HUGE):
                for place in (0, size // 2, size - 1):
                    made = {"size": size, "first": place, "second": place, "place": 0}
                    self.check("InvalidNumber", "second", function, made)
                    self.check("InvalidNumber", "second", function, {**made, "place": None})
            self.check("InvalidNumber", "second", function, {"size": 1, "first": 0, "second": 1, "place": 0})

    def test_calls(self):
        for function, made in self.with_argument("calls"):
            for calls in not_limits():
                self.check("InvalidNumber", "calls", function, {**made, "calls": calls})

    def test_the_first_one_decides(self):
        for function, made in ON_RINGS.items():
            self.check_first_decides(function, made, list(made))

    def test_too_large_comes_after_the_checks(self):
        wrong = {"targets": ("InvalidTargets", -1), "place": ("InvalidNumber", "place"),
                 "calls": ("InvalidNumber", "calls")}
        for function in (min_calls_on_ring, sum_counts):
            made = {**ON_RINGS[function], "size": 2001}
            self.check("TooLarge", 2000, function, made)
            for name, (error, stored) in wrong.items():
                if name in made:
                    self.check(error, stored, function, {**made, name: None})
                    self.check(error, stored, function, {**made, name: Untouchable()})
            self.check("InvalidTargets", 1, function, {**made, "targets": [2000, 2001]})
        made = ON_RINGS[sum_counts]
        self.check("TooLarge", 40, sum_counts, {**made, "calls": 41})
        self.check("TooLarge", 2000, sum_counts, {**made, "size": 2001, "calls": 41})
        self.check("TooLarge", 40, sum_counts, {**made, "size": 2000, "calls": 41})
        self.check("InvalidNumber", "place", sum_counts, {**made, "place": 7, "calls": 41})
        made = {**ON_RINGS[check_sum], "calls": 1001}
        for counts in (None, [], [5, 3], [-1, 3], (5, 3), Untouchable()):
            self.check("TooLarge", 1000, check_sum, {**made, "counts": counts})
            self.check("TooLarge", 1000, check_sum, {**made, "size": HUGE, "counts": counts})
            self.check("InvalidNumber", "place", check_sum, {**made, "place": 7, "counts": counts})
            self.check("InvalidTargets", 0, check_sum, {**made, "targets": [7], "counts": counts})

    def test_no_limit_of_the_size(self):
        for function in (check_sum, call_from_sum, min_calls_two, two_target_sum):
            made = {**ON_RINGS[function], "size": HUGE, "place": 1}
            if "counts" in made:
                made["counts"] = [0, 8]
            function(**made)


class TableArgumentsTest(CheckingCase):

    def with_argument(self, name):
        return [function for function, names in ON_TABLES.items() if name in names]

    def test_table(self):
        for function in ON_TABLES:
            for table in not_tables() + [Table]:
                self.check("InvalidTable", table, function, on_table(function, [6], table=table))

    def test_seat(self):
        for function in self.with_argument("seat"):
            for sizes in SEVERAL + LARGE:
                for seat in not_seats(sizes):
                    self.check("InvalidSeat", seat, function, on_table(function, sizes, seat=seat))

    def test_lists_of_seats(self):
        for name in ("visited", "targets", "seats"):
            for function in self.with_argument(name):
                for sizes in SEVERAL[1:] + LARGE:
                    self.check_list(function, sizes, name)

    def check_list(self, function, sizes, name):
        zero, last = (0,) * len(sizes), tuple(size - 1 for size in sizes)
        values = not_target_lists if name == "targets" else not_visited_lists
        for at in range(len(values())):
            self.check("InvalidTargets", -1, function, on_table(function, sizes, **{name: values()[at]}))
        for entry in not_seats(sizes):
            for entries, index in (([entry], 0), ((last, entry, last), 1), ([zero, last, entry, None], 2)):
                self.check("InvalidTargets", index, function, on_table(function, sizes, **{name: entries}))
        for entries, index in (([zero, zero], 1), ((last, zero, last), 2), ([zero, last, last, 5], 2)):
            self.check("InvalidTargets", index, function, on_table(function, sizes, **{name: entries}))

    def test_responder(self):
        table, seat = Table([6, 9]), (1, 0)
        wrong = not_strategies() + ["layers", [(1, 2)], [(0, 0), (1, 1)], ("forward",), "forward"]
        # The value of the seat is the residue.
        wrong += [(3, (1, 2), 1), (9, (3, 1), 3), (3, (0, 0), 0), (9, (0, 0), 0)]
        for responder in wrong:
            self.check("InvalidStrategy", responder, run_tour,
                       {"table": table, "seat": seat, "responder": responder, "limit": 3})
            self.check("InvalidStrategy", responder, run_tour,
                       {"table": table, "seat": seat, "responder": responder, "limit": -1})
        for responder in ((3, (1, 2), 0), (3, (1, 2), 2), (9, (3, 1), 4), (3, (0, 0), 1), ["backward"]):
            run_tour(table, seat, responder, 0)

    def test_limit(self):
        for responder in (["forward"], (3, (1,), 1)):
            for limit in not_limits():
                self.check("InvalidNumber", "limit", run_tour,
                           {"table": Table([6]), "seat": (0,), "responder": responder, "limit": limit})

    def test_witness(self):
        for witness in not_witnesses():
            for visited in ([], [(0, 0)], ((1, 1), (0, 1))):
                self.check("InvalidWitness", -1, check_end,
                           {"table": Table([6, 9]), "visited": visited, "seat": (1, 0), "witness": witness})

    def test_the_first_one_decides(self):
        for function, names in ON_TABLES.items():
            for sizes in ([6], [4, 2]):
                self.check_first_decides(function, on_table(function, sizes), names)

    def test_too_large_comes_after_the_other_checks(self):
        for sizes in LARGE:
            zero = (0,) * len(sizes)
            for function in SMALL_ONLY:
                self.check("TooLarge", 300, function, on_table(function, sizes))
                for name in ON_TABLES[function]:
                    for wrong in (None, Untouchable(), 1.5):
                        if name not in ("table", "witness"):
                            self.check(ERRORS[name], stored_by(name, wrong), function,
                                       on_table(function, sizes, **{name: wrong}))
            for witness in (None, (3, zero, 0), (4, zero, 0), Untouchable()):
                self.check("TooLarge", 300, check_end, on_table(check_end, sizes, witness=witness))
            # The value of the seat is the residue, and that is looked at on every table.
            strategy = (3, zero, 0)
            self.check("InvalidStrategy", strategy, run_tour, on_table(run_tour, sizes, responder=strategy))

    def test_no_table_is_too_large_for_the_others(self):
        for sizes in LARGE:
            zero = (0,) * len(sizes)
            self.assertEqual(min_targets(Table(sizes)), len(minimal_targets(Table(sizes))))
            min_more_targets(Table(sizes), [zero])
            self.assertIs(can_avoid(Table(sizes), zero, [zero]), False)
            self.check("InvalidWitness", -1, check_min_targets, on_table(check_min_targets, sizes))

    def test_exactly_300_seats_are_small(self):
        for sizes in ([300], [12, 25], [2, 3, 50], [2, 2, 3, 25]):
            for function in SMALL_ONLY:
                if function is check_end:
                    self.check("InvalidWitness", 0, function, on_table(function, sizes))
                else:
                    function(**on_table(function, sizes))


if __name__ == "__main__":
    unittest.main()
