"""How long the answers on tables of 200 to 300 seats take, compared with a plain count on the same machine."""

import unittest
from time import perf_counter

from calledseats.layers import best_call, layers, make_plan, min_calls
from calledseats.players import Caller, Responder, play
from calledseats.records import Record
from calledseats.tables import Table

COUNTED = 50000
REPEATS = 10
ATTEMPTS = 8
CASES = [
    ([4, 4, 4, 4], [(0, 0, 0, 0)]), ([2, 2, 2, 32], [(0, 0, 0, 0)]), ([300], [(0,), (1,)]), ([299], [(0,), (1,)]),
    ([256], [(0,)]),
]
# The steps of a plain count that one call may take: two to four times what it takes.
# The search that tried all pairs of seats took 80000 to 200000 of them for each of these.
LIMITS = {"layers": 36000, "min_calls": 33000, "best_call": 33000, "make_plan": 52000, "Caller": 12000,
          "Responder": 38000, "losses": 38000}


def time_of(function):
    start = perf_counter()
    function()
    return perf_counter() - start


def plain_count():
    total = 0
    while total < COUNTED:
        total += 1


class SpeedTest(unittest.TestCase):

    def check(self, name, function):
        """Assert that a call takes fewer steps of a plain count than its limit, in one of several attempts."""
        def repeated():
            for _ in range(REPEATS):
                function()

        steps = []
        for _ in range(ATTEMPTS):
            count = min(time_of(plain_count), time_of(plain_count)) / COUNTED
            steps.append(min(time_of(repeated), time_of(repeated)) / REPEATS / count)
            if steps[-1] < LIMITS[name]:
                return
        self.fail(f"{name} takes {steps} steps, not fewer than {LIMITS[name]}")

    def test_layers_and_plans(self):
        for sizes, targets in CASES:
            table = Table(sizes)
            with self.subTest(sizes=sizes, targets=targets):
                self.check("layers", lambda: layers(table, targets))
                self.check("make_plan", lambda: make_plan(table, targets))

    def test_single_seats(self):
        for sizes, targets in CASES:
            table, last = Table(sizes), tuple(size - 1 for size in sizes)
            numbers = layers(table, targets)
            for seat in (last, numbers[-1][0], numbers[len(numbers) // 2][-1], targets[0]):
                with self.subTest(sizes=sizes, targets=targets, seat=seat):
                    self.check("min_calls", lambda: min_calls(table, targets, seat))
                    self.check("best_call", lambda: best_call(table, targets, seat))

    def test_players_and_records(self):
        for sizes, targets in CASES:
            table, last = Table(sizes), tuple(size - 1 for size in sizes)
            caller, responder = Caller(table, targets, "layers"), Responder(table, targets, "layers")
            moves = play(table, targets, last, caller, responder, 20)[0]
            with self.subTest(sizes=sizes, targets=targets):
                self.check("Caller", lambda: Caller(table, targets, "layers"))
                self.check("Responder", lambda: Responder(table, targets, "layers"))
                self.check("losses", lambda: Record(table, targets, last, moves).losses())


if __name__ == "__main__":
    unittest.main()
