"""Wrong arguments of stages 3 to 5: the class of the error, its value, and which argument decides."""

import unittest

from calledseats.layers import best_call, check_plan, layers, make_plan, min_calls, plan_depths
from calledseats.players import Caller, Responder, avoiding_direction, play
from calledseats.records import Record, consistent_witnesses
from calledseats.tables import Table
from tests.support import AlwaysEqual, HUGE, Untouchable, assert_error, not_calls, not_limits, not_move_lists
from tests.support import not_moves, not_seats, not_strategies, not_tables, not_target_lists, not_witnesses

SEVERAL = [[1], [6], [4, 3], [6, 9], [2, 1, 5], [3, 2, 1, 4], [10 ** 40, 3]]
STRANGE = [None, Untouchable(), AlwaysEqual(), [], HUGE]

# Each function with arguments that fit the table [6] or, if wide, other tables with the zero seat as target.
WITH_TARGETS = {
    layers: {}, make_plan: {}, min_calls: {"seat": 0}, best_call: {"seat": 0}, check_plan: {"plan": []},
    plan_depths: {"plan": []}, Responder: {"strategy": ["forward"]}, Caller: {"strategy": "call"},
    Record: {"seat": 0, "moves": []}, play: {"seat": 0, "caller": 0, "responder": 0, "limit": 3},
}
SMALL_ONLY = [layers, make_plan, min_calls, best_call]


def arguments(function, sizes, **changed):
    """Valid arguments in the order of the parameters, by their names, with some of them changed."""
    table, zero = Table(sizes), (0,) * len(sizes)
    made = {"table": table, "targets": [zero]}
    for name, given in WITH_TARGETS[function].items():
        made[name] = given
    if "seat" in made:
        made["seat"] = zero
    if made.get("strategy") == "call":
        made["strategy"] = [zero]
    if function is play:
        made["caller"] = Caller(table, [zero], [zero])
        made["responder"] = Responder(table, [zero], ["forward"])
    made.update(changed)
    return made


class CheckingCase(unittest.TestCase):

    def check(self, name, stored, function, made):
        """Assert the error by position, by keyword, and by keywords in the opposite order."""
        assert_error(self, name, stored, function, *made.values())
        assert_error(self, name, stored, function, **made)
        assert_error(self, name, stored, function, **dict(reversed(list(made.items()))))


class OneWrongArgumentTest(CheckingCase):

    def test_the_valid_arguments_are_valid(self):
        for function in WITH_TARGETS:
            for sizes in SEVERAL[:-1]:
                function(**arguments(function, sizes))

    def test_table(self):
        for function in WITH_TARGETS:
            for table in not_tables() + [Table]:
                self.check("InvalidTable", table, function, arguments(function, [6], table=table))
        for table in not_tables() + [Table]:
            self.check("InvalidTable", table, avoiding_direction,
                       {"table": table, "witness": (3, (1,), 0), "seat": (1,), "call": (1,)})
            self.check("InvalidTable", table, consistent_witnesses, {"table": table, "seat": (1,), "moves": []})

    def test_targets(self):
        for function in WITH_TARGETS:
            for sizes in SEVERAL:
                zero, last = (0,) * len(sizes), tuple(size - 1 for size in sizes)
                for at in range(len(not_target_lists())):
                    for _ in range(2):
                        # Each call gets a value of its own: an iterator would be used up.
                        wrong = arguments(function, sizes, targets=not_target_lists()[at])
                        self.check("InvalidTargets", -1, function, wrong)
                for entry in not_seats(sizes):
                    self.check("InvalidTargets", 0, function, arguments(function, sizes, targets=[entry]))
                    self.check("InvalidTargets", 1, function, arguments(function, sizes, targets=(last, entry, last)))
                self.check("InvalidTargets", 1, function, arguments(function, sizes, targets=[zero, zero]))
                if zero != last:
                    self.check("InvalidTargets", 2, function, arguments(function, sizes, targets=(zero, last, zero)))
                    self.check("InvalidTargets", 2, function, arguments(function, sizes, targets=[zero, last, last, 5]))

    def test_seat(self):
        for function in WITH_TARGETS:
            if "seat" in WITH_TARGETS[function]:
                for sizes in SEVERAL:
                    for seat in not_seats(sizes):
                        self.check("InvalidSeat", seat, function, arguments(function, sizes, seat=seat))
        for sizes in SEVERAL:
            zero = (0,) * len(sizes)
            for seat in not_seats(sizes):
                self.check("InvalidSeat", seat, consistent_witnesses,
                           {"table": Table(sizes), "seat": seat, "moves": []})
                self.check("InvalidSeat", seat, avoiding_direction,
                           {"table": Table(sizes), "witness": (3, zero, 1), "seat": seat, "call": zero})

    def test_call(self):
        for sizes in SEVERAL:
            zero = (0,) * len(sizes)
            for call in not_calls(len(sizes)):
                self.check("InvalidCall", call, avoiding_direction,
                           {"table": Table(sizes), "witness": (3, zero, 1), "seat": zero, "call": call})
                for strategy in ("layers", ["forward"], (3, zero, 0)):
                    if strategy == "layers" and sizes[0] > 300:
                        continue
                    responder = Responder(Table(sizes), [zero], strategy)
                    if isinstance(strategy, tuple):
                        # All weights are 0, so every seat has the residue.
                        self.check("InvalidSeat", zero, responder.answer, {"seat": zero, "call": call})
                    else:
                        self.check("InvalidCall", call, responder.answer, {"seat": zero, "call": call})

    def test_witness(self):
        table = Table([6, 9])
        for witness in not_witnesses():
            self.check("InvalidWitness", -1, avoiding_direction,
                       {"table": table, "witness": witness, "seat": (1, 0), "call": (1, 0)})

    def test_answer_and_next_call(self):
        for sizes in SEVERAL:
            zero = (0,) * len(sizes)
            for strategy in ("layers", ["forward"], (3, zero, 0)):
                if strategy != "layers" or sizes[0] < 300:
                    responder = Responder(Table(sizes), [zero], strategy)
                    for seat in not_seats(sizes):
                        self.check("InvalidSeat", seat, responder.answer, {"seat": seat, "call": zero})
                        self.check("InvalidSeat", seat, responder.answer, {"seat": seat, "call": None})
            for strategy in ("layers", [zero]):
                if strategy != "layers" or sizes[0] < 300:
                    caller = Caller(Table(sizes), [zero], strategy)
                    for seat in not_seats(sizes):
                        self.check("InvalidSeat", seat, caller.next_call, {"seat": seat})

    def test_a_call_of_a_witness_player(self):
        responder = Responder(Table([6, 9]), [(0, 0)], (9, (3, 1), 0))
        for call in not_calls(2):
            self.check("InvalidCall", call, responder.answer, {"seat": (1, 0), "call": call})
            for seat in ((0, 0), (1, 6), (5, 3)):
                self.check("InvalidSeat", seat, responder.answer, {"seat": seat, "call": call})

    def test_strategies(self):
        for strategy in not_strategies():
            for player in (Responder, Caller):
                self.check("InvalidStrategy", strategy, player,
                           {"table": Table([6, 9]), "targets": [(0, 0)], "strategy": strategy})

    def test_strategies_of_the_other_player(self):
        table = Table([6, 9])
        for strategy in (["forward"], ["backward", "forward"], (3, (1, 2), 0)):
            assert_error(self, "InvalidStrategy", strategy, Caller, table, [(0, 0)], strategy)
            Responder(table, [(0, 0)], strategy)
        for strategy in ([(1, 2)], [(-1, 2), (HUGE, -HUGE)]):
            assert_error(self, "InvalidStrategy", strategy, Responder, table, [(0, 0)], strategy)
            Caller(table, [(0, 0)], strategy)
        for strategy in (((1, 2),), ("forward",), ((0, 0), (1, 1))):
            assert_error(self, "InvalidStrategy", strategy, Responder, table, [(0, 0)], strategy)
            assert_error(self, "InvalidStrategy", strategy, Caller, table, [(0, 0)], strategy)
        for call in not_calls(2):
            for strategy in ([call], [(1, 1), call], [call, (1, 1), call]):
                assert_error(self, "InvalidStrategy", strategy, Caller, table, [(0, 0)], strategy)

    def test_a_witness_for_other_targets(self):
        table = Table([6, 9])
        for targets, witness, fits in (
                ([(0, 0)], (3, (1, 2), 0), True), ([(0, 0)], (3, (1, 2), 1), False), ([(1, 1)], (3, (1, 2), 0), True),
                ([(1, 1), (0, 1)], (3, (1, 2), 0), False), ([(0, 1), (1, 1)], (3, (1, 2), 0), False),
                ([(1, 1), (0, 3)], (3, (1, 2), 0), True), ([(1, 1), (0, 3), (1, 2)], (3, (1, 2), 0), False),
                ([(1, 2)], (9, (3, 1), 5), True), ([(1, 2)], (9, (3, 1), 4), False), ([(5, 8)], (3, (0, 0), 0), True),
                ([(5, 8)], (3, (0, 0), 1), False)):
            if fits:
                Responder(table, targets, witness)
                Responder(strategy=witness, targets=tuple(targets), table=table)
            else:
                self.check("InvalidStrategy", witness, Responder,
                           {"table": table, "targets": targets, "strategy": witness})

    def test_moves(self):
        for sizes in SEVERAL:
            table, zero = Table(sizes), (0,) * len(sizes)
            good = (zero, "backward")
            for at in range(len(not_move_lists())):
                wrong = {"table": table, "targets": [zero], "seat": zero, "moves": not_move_lists()[at]}
                self.check("InvalidMoves", -1, Record, wrong)
                del wrong["targets"]
                self.check("InvalidMoves", -1, consistent_witnesses, wrong)
            for move in not_moves(len(sizes)):
                for moves, index in (([move], 0), ((good, move), 1), ([good, good, move, None], 2)):
                    wrong = {"table": table, "targets": [zero], "seat": zero, "moves": moves}
                    self.check("InvalidMoves", index, Record, wrong)
                    del wrong["targets"]
                    self.check("InvalidMoves", index, consistent_witnesses, wrong)

    def test_players_in_a_game(self):
        made = arguments(play, [6])
        caller, responder = made["caller"], made["responder"]
        for wrong in not_tables() + [Table([6]), "caller", "layers", Caller, Responder, responder, [caller]]:
            self.check("Mismatch", "caller", play, {**made, "caller": wrong})
        for wrong in not_tables() + [Table([6]), "responder", "layers", Caller, Responder, caller, (3, (1,), 0)]:
            self.check("Mismatch", "responder", play, {**made, "responder": wrong})

    def test_limit(self):
        for limit in not_limits():
            self.check("InvalidNumber", "limit", play, arguments(play, [6], limit=limit))
            self.check("InvalidNumber", "limit", play, arguments(play, [6], limit=limit, seat=(1,)))


class SeveralWrongArgumentsTest(CheckingCase):

    def test_the_first_one_decides(self):
        names = {"table": "InvalidTable", "targets": "InvalidTargets", "seat": "InvalidSeat", "plan": "InvalidWitness",
                 "strategy": "InvalidStrategy", "moves": "InvalidMoves", "caller": "Mismatch", "responder": "Mismatch",
                 "limit": "InvalidNumber"}
        for function in WITH_TARGETS:
            order = list(arguments(function, [6]))
            for at, first in enumerate(order):
                for wrong in (None, AlwaysEqual(), Untouchable(), 1.5, {HUGE: []}):
                    stored = wrong
                    if names[first] in ("InvalidTargets", "InvalidWitness", "InvalidMoves"):
                        stored = -1
                    elif names[first] in ("Mismatch", "InvalidNumber"):
                        stored = first
                    for later in range(at + 1, len(order) + 1):
                        changed = {name: wrong for name in [first] + order[later:]}
                        self.check(names[first], stored, function, arguments(function, [6], **changed))

    def test_witnesses_seats_and_calls(self):
        for wrong in STRANGE:
            for other in STRANGE:
                self.check("InvalidWitness", -1, avoiding_direction,
                           {"table": Table([6]), "witness": wrong, "seat": other, "call": other})
                self.check("InvalidSeat", wrong, avoiding_direction,
                           {"table": Table([6]), "witness": (3, (1,), 0), "seat": wrong, "call": other})
                self.check("InvalidTable", wrong, avoiding_direction,
                           {"table": wrong, "witness": other, "seat": other, "call": other})
            seat = (3,)
            self.check("InvalidSeat", seat, avoiding_direction,
                       {"table": Table([6]), "witness": (3, (1,), 0), "seat": seat, "call": wrong})
            self.check("InvalidSeat", wrong, consistent_witnesses, {"table": Table([6]), "seat": wrong, "moves": None})
            self.check("InvalidTable", wrong, consistent_witnesses, {"table": wrong, "seat": (6,), "moves": None})

    def test_the_order_in_a_game(self):
        table, targets = Table([9]), [(0,)]
        caller, responder = Caller(table, targets, [(1,)]), Responder(table, targets, (3, (1,), 0))
        seat, other = (3,), Caller(table, [(1,)], [(1,)])
        self.check("Mismatch", "caller", play, {"table": table, "targets": targets, "seat": seat, "caller": other,
                                               "responder": None, "limit": -1})
        self.check("Mismatch", "responder", play, {"table": table, "targets": targets, "seat": seat, "caller": caller,
                                                  "responder": other, "limit": -1})
        self.check("InvalidNumber", "limit", play, {"table": table, "targets": targets, "seat": seat, "caller": caller,
                                                   "responder": responder, "limit": -1})
        self.check("InvalidSeat", seat, play, {"table": table, "targets": targets, "seat": seat, "caller": caller,
                                              "responder": responder, "limit": 0})
        seat = (9,)
        self.check("InvalidSeat", seat, play, {"table": table, "targets": targets, "seat": seat, "caller": other,
                                              "responder": None, "limit": -1})

    def test_too_large_comes_last(self):
        for sizes in ([301], [7, 43], [10 ** 30, 2], [2, 2, 2, 38], [HUGE]):
            table, zero = Table(sizes), (0,) * len(sizes)
            for function in SMALL_ONLY:
                self.check("TooLarge", 300, function, arguments(function, sizes))
                self.check("InvalidTargets", 1, function, arguments(function, sizes, targets=[zero, zero]))
                self.check("InvalidTargets", -1, function, arguments(function, sizes, targets=None))
                if "seat" in WITH_TARGETS[function]:
                    for seat in (None, zero + (0,), tuple(sizes), list(zero)):
                        self.check("InvalidSeat", seat, function, arguments(function, sizes, seat=seat))
            for player in (Responder, Caller):
                self.check("TooLarge", 300, player, {"table": table, "targets": [zero], "strategy": "layers"})
                self.check("InvalidTargets", 1, player, {"table": table, "targets": [zero, zero], "strategy": "layers"})
                for strategy in (None, "layer", [], ["layers"], Untouchable()):
                    self.check("InvalidStrategy", strategy, player,
                               {"table": table, "targets": [zero], "strategy": strategy})
            self.check("TooLarge", 300, consistent_witnesses, {"table": table, "seat": zero, "moves": []})
            self.check("InvalidMoves", 0, consistent_witnesses, {"table": table, "seat": zero, "moves": [None]})
            self.check("InvalidMoves", -1, consistent_witnesses, {"table": table, "seat": zero, "moves": None})
            seat = tuple(sizes)
            self.check("InvalidSeat", seat, consistent_witnesses, {"table": table, "seat": seat, "moves": []})
            self.assertIsNone(check_plan(table, [zero], []))
            self.assertEqual(plan_depths(table, [zero], []), [])
            self.check("InvalidWitness", 0, check_plan, {"table": table, "targets": [zero], "plan": [(zero, zero)]})

    def test_exactly_300_seats_are_small(self):
        for sizes in ([300], [12, 25], [2, 3, 50], [2, 2, 3, 25]):
            for function in WITH_TARGETS:
                function(**arguments(function, sizes))
            table, zero = Table(sizes), (0,) * len(sizes)
            Responder(table, [zero], "layers")
            Caller(table, [zero], "layers")
            Record(table, [zero], zero, []).losses()
            Record(table, [zero], zero, []).first_mistake()
            consistent_witnesses(table, zero, [])


if __name__ == "__main__":
    unittest.main()
