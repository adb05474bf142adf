"""Each example of the document as it stands, and the interface as it is listed."""

import inspect
import unittest

from calledseats import layers as layers_module
from calledseats import marks as marks_module
from calledseats import players as players_module
from calledseats import reach as reach_module
from calledseats import records as records_module
from calledseats import sums as sums_module
from calledseats import tables as tables_module
from calledseats import tours as tours_module
from calledseats.layers import best_call, check_plan, layers, make_plan, min_calls, plan_depths
from calledseats.marks import avoided_sets, can_avoid, check_min_targets, min_more_targets, min_targets
from calledseats.marks import minimal_targets
from calledseats.players import Caller, Responder, avoiding_direction, play
from calledseats.reach import check_witness, coset_count, reach, value
from calledseats.records import Record, consistent_witnesses
from calledseats.sums import call_from_sum, check_sum, min_calls_on_ring, min_calls_two, sum_counts, two_target_sum
from calledseats.tables import Table
from calledseats.tours import check_end, kept_empty, max_more, max_visited, run_tour, tour_call
from tests.support import ATTRIBUTES, assert_error


class ExamplesTest(unittest.TestCase):

    def test_1_1(self):
        rings = [0, 3]
        assert_error(self, "InvalidTable", rings, Table, rings)

    def test_1_2(self):
        self.assertEqual(Table([4, 3]).sizes(), (4, 3))

    def test_1_3(self):
        self.assertEqual(Table([4, 3]).count(), 12)

    def test_1_4(self):
        self.assertEqual(Table([4, 3]).moves((0, 2), (1, 2)), ((1, 1), (3, 0)))
        seat = (6,)
        assert_error(self, "InvalidSeat", seat, Table([6]).moves, seat, (1,))

    def test_1_5(self):
        self.assertEqual(Table([6]).step((1,), (2,), 'backward'), (5,))
        assert_error(self, "InvalidDirection", 'back', Table([6]).step, (1,), (2,), 'back')

    def test_1_6(self):
        self.assertEqual(Table([4, 3]).order((2, 1)), 6)

    def test_1_7(self):
        self.assertEqual(Table([6]).halves((4,)), [(2,), (5,)])
        self.assertEqual(Table([6]).halves((3,)), [])

    def test_2_1(self):
        self.assertEqual(coset_count(Table([6]), [(0,)]), 3)
        self.assertEqual(coset_count(Table([6]), [(0,), (2,)]), 1)
        self.assertEqual(coset_count(Table([3, 3]), [(0, 0), (1, 1)]), 3)
        assert_error(self, "InvalidTargets", 1, coset_count, Table([6]), [(0,), (0,)])

    def test_2_2(self):
        self.assertEqual(reach(Table([6]), [(0,)], (3,)), ('reachable',))
        self.assertEqual(reach(Table([6]), [(0,)], (1,))[0], 'unreachable')

    def test_2_3(self):
        self.assertIsNone(check_witness(Table([6]), [(0,)], (1,), (3, (1,), 0)))
        assert_error(self, "InvalidWitness", 1, check_witness, Table([6]), [(0,)], (3,), (3, (1,), 0))

    def test_2_4(self):
        self.assertEqual(value(Table([6]), (3, (1,), 0), (5,)), 2)
        assert_error(self, "InvalidWitness", -1, value, Table([6]), (4, (1,), 0), (5,))

    def test_3_1(self):
        self.assertEqual(min_calls(Table([5]), [(0,), (1,)], (2,)), 2)
        self.assertIsNone(min_calls(Table([3]), [(0,)], (1,)))

    def test_3_2(self):
        self.assertEqual(layers(Table([5]), [(1,), (0,)]), [[(0,), (1,)], [(3,)], [(2,), (4,)]])
        self.assertEqual(layers(Table([4]), [(0,)]), [[(0,)], [(2,)], [(1,), (3,)]])

    def test_3_3(self):
        self.assertEqual(best_call(Table([2]), [(0,)], (1,)), (1,))

    def test_3_4(self):
        assert_error(self, "InvalidWitness", 0, check_plan, Table([4]), [(0,)], [((1,), (1,))])

    def test_3_5(self):
        plan = [((2,), (2,)), ((3,), (1,)), ((1,), (-1,))]
        self.assertEqual(plan_depths(Table([4]), [(0,)], plan), [((2,), 1), ((3,), 2), ((1,), 2)])

    def test_3_6(self):
        self.assertEqual(make_plan(Table([2]), [(0,)]), [((1,), (1,))])

    def test_4_1(self):
        self.assertEqual(avoiding_direction(Table([15]), (3, (1,), 0), (1,), (2,)), 'backward')
        self.assertEqual(avoiding_direction(Table([15]), (3, (1,), 0), (1,), (1,)), 'forward')
        seat = (3,)
        assert_error(self, "InvalidSeat", seat, avoiding_direction, Table([15]), (3, (1,), 0), seat, (1,))

    def test_4_2(self):
        strategy = (3, (1,), 0)
        assert_error(self, "InvalidStrategy", strategy, Responder, Table([15]), [(0,), (1,)], strategy)

    def test_4_3(self):
        responder = Responder(Table([4]), [(0,)], "layers")
        self.assertEqual([responder.answer((1,), (3,)), responder.answer((2,), (2,))], ['backward', 'forward'])
        responder = Responder(Table([5]), [(0,)], ["forward", "backward"])
        self.assertEqual([responder.answer((1,), (2,)), responder.answer((1,), (2,)), responder.answer((1,), (2,))],
                         ['forward', 'backward', 'forward'])

    def test_4_4(self):
        strategy = []
        assert_error(self, "InvalidStrategy", strategy, Caller, Table([4]), [(0,)], strategy)

    def test_4_5(self):
        caller = Caller(Table([4]), [(0,)], [(5,), (-1,)])
        self.assertEqual([caller.next_call((2,)), caller.next_call((2,)), caller.next_call((2,))], [(1,), (3,), (1,)])
        self.assertEqual(Caller(Table([4]), [(0,)], "layers").next_call((2,)), (2,))

    def test_4_6(self):
        table, targets = Table([4]), [(0,)]
        caller = Caller(table, targets, "layers")
        responder = Responder(table, targets, "layers")
        self.assertEqual(play(table, targets, (2,), caller, responder, 10),
                         ([((2,), 'forward')], [(2,), (0,)], 'reached'))
        caller = Caller(table, targets, [(1,)])
        responder = Responder(table, targets, ["backward"])
        self.assertEqual(play(table, targets, (3,), caller, responder, 2),
                         ([((1,), 'backward'), ((1,), 'backward')], [(3,), (2,), (1,)], 'open'))

    def test_5_1(self):
        moves = [((1,), 'forward'), ((1,), 'up')]
        assert_error(self, "InvalidMoves", 1, Record, Table([4]), [(0,)], (1,), moves)

    def test_5_2_to_5_5(self):
        moves = [((1,), 'forward'), ((1,), 'forward'), ((1,), 'forward')]
        game = Record(Table([4]), [(0,)], (1,), moves)
        self.assertEqual(game.seats(), [(1,), (2,), (3,), (0,)])
        self.assertEqual(game.calls_to_target(), 3)
        self.assertEqual(game.losses(), [(0, 0), (2, 0), (0, 1)])
        self.assertEqual(game.first_mistake(), (1, 'caller'))

    def test_5_4(self):
        self.assertEqual(Record(Table([3]), [(0,)], (1,), [((1,), 'backward')]).losses(), [(0, None)])
        assert_error(self, "TooLarge", 300, Record(Table([301]), [(0,)], (1,), []).losses)

    def test_5_5(self):
        self.assertIsNone(Record(Table([4]), [(0,)], (2,), [((2,), 'forward')]).first_mistake())

    def test_5_6(self):
        self.assertEqual(consistent_witnesses(Table([3]), (0,), [((1,), 'backward')]), [(3, (1,), 1)])
        self.assertEqual(consistent_witnesses(Table([3]), (0,), []), [(3, (1,), 1), (3, (1,), 2)])

    def test_6_1(self):
        self.assertEqual(min_calls_on_ring(7, [0, 1], 3), 3)
        self.assertEqual(min_calls_on_ring(6, [0], 3), 1)
        self.assertIsNone(min_calls_on_ring(6, [0], 1))
        assert_error(self, "InvalidTargets", 1, min_calls_on_ring, 6, [0, 0], 1)

    def test_6_2(self):
        self.assertEqual(min_calls_two(7, 0, 1, 3), 3)
        assert_error(self, "InvalidNumber", 'second', min_calls_two, 7, 1, 1, 3)

    def test_6_3(self):
        self.assertEqual(sum_counts(7, [0, 1], 3, 3), [5, 3])
        self.assertIsNone(sum_counts(7, [0, 1], 3, 2))
        assert_error(self, "TooLarge", 40, sum_counts, 7, [0, 1], 3, 41)

    def test_6_4(self):
        self.assertEqual(two_target_sum(7, 0, 1, 3), (3, [5, 3]))

    def test_6_5(self):
        self.assertIsNone(check_sum(7, [0, 1], 3, 3, [5, 3]))
        assert_error(self, "InvalidWitness", 2, check_sum, 7, [0, 1], 3, 3, [5, 2])
        assert_error(self, "InvalidWitness", 3, check_sum, 7, [0, 1], 3, 3, [4, 4])

    def test_6_6(self):
        call, forward, backward = call_from_sum(7, [0, 1], 3, [5, 3])
        self.assertEqual([check_sum(7, [0, 1], (3 + call) % 7, 2, forward),
                          check_sum(7, [0, 1], (3 - call) % 7, 2, backward)], [None, None])

    def test_7_1(self):
        self.assertEqual(max_visited(Table([12])), 8)
        self.assertEqual(max_visited(Table([4, 2])), 8)

    def test_7_2(self):
        self.assertEqual(kept_empty(Table([6]), [(1,)], (0,))[0], 2)
        self.assertEqual(kept_empty(Table([8]), [], (0,)), (0, None))

    def test_7_3(self):
        self.assertEqual(tour_call(Table([3]), [(1,), (2,)], (0,)), ('complete',))
        self.assertEqual(tour_call(Table([2]), [], (0,)), ('call', (1,)))
        self.assertEqual(tour_call(Table([3]), [(1,)], (0,))[0], 'end')
        assert_error(self, "InvalidTargets", 1, tour_call, Table([3]), [(1,), (1,)], (0,))

    def test_7_4(self):
        self.assertEqual(run_tour(Table([2]), (1,), ['backward'], 10), ([((1,), 'backward')], [(1,), (0,)], 'complete'))
        moves, seats, outcome = run_tour(Table([3]), (0,), (3, (1,), 2), 10)
        self.assertEqual((seats, outcome), ([(0,), (1,)], 'end'))
        strategy = (3, (1,), 2)
        assert_error(self, "InvalidStrategy", strategy, run_tour, Table([3]), (2,), strategy, 10)

    def test_7_5(self):
        self.assertIsNone(check_end(Table([3]), [(1,)], (0,), (3, (1,), 2)))
        assert_error(self, "InvalidWitness", 0, check_end, Table([3]), [], (0,), (3, (1,), 2))

    def test_7_6(self):
        self.assertEqual(max_more(Table([5]), [], (0,)), 3)
        self.assertEqual(max_more(Table([5]), [(1,), (2,)], (0,)), 1)
        assert_error(self, "TooLarge", 9, max_more, Table([10]), [], (0,))

    def test_8_1(self):
        self.assertEqual(min_targets(Table([3, 15, 5])), 3)
        self.assertEqual(min_targets(Table([8, 4])), 1)

    def test_8_2(self):
        self.assertEqual(len(minimal_targets(Table([3, 15, 5]))), 3)

    def test_8_3(self):
        self.assertEqual(min_more_targets(Table([3, 3]), [(0, 0), (1, 0)])[0], 1)
        self.assertEqual(min_more_targets(Table([4]), [(1,)]), (0, None))

    def test_8_4(self):
        self.assertIsNone(check_min_targets(Table([3, 3]), [(0, 0)], 2, (3, [(1, 0), (0, 1)])))
        assert_error(self, "InvalidWitness", 2, check_min_targets, Table([3, 3]), [(0, 0)], 2, (3, [(1, 0), (2, 0)]))
        assert_error(self, "InvalidWitness", 0, check_min_targets, Table([3, 3]), [(0, 0), (1, 0)], 1, (3, [(1, 0)]))

    def test_8_5(self):
        self.assertIs(can_avoid(Table([6]), (1,), [(0,), (3,)]), True)
        self.assertIs(can_avoid(Table([6]), (0,), [(3,)]), False)

    def test_8_6(self):
        self.assertEqual(avoided_sets(Table([6]), (1,)), [[(0,), (3,)], [(2,), (5,)]])
        self.assertEqual(avoided_sets(Table([4]), (1,)), [])


class InterfaceTest(unittest.TestCase):

    def assert_parameters(self, function, names):
        parameters = inspect.signature(function).parameters.values()
        self.assertEqual([parameter.name for parameter in parameters], names)
        for parameter in parameters:
            self.assertEqual(parameter.kind, inspect.Parameter.POSITIONAL_OR_KEYWORD)
            self.assertIs(parameter.default, inspect.Parameter.empty)

    def test_table(self):
        self.assertEqual(Table.__module__, "calledseats.tables")
        self.assert_parameters(Table, ["rings"])
        listed = {"sizes": [], "count": [], "moves": ["seat", "call"], "step": ["seat", "call", "direction"],
                  "order": ["seat"], "halves": ["seat"]}
        for name, names in listed.items():
            self.assertIn(name, vars(tables_module.Table))
            self.assert_parameters(getattr(Table([6]), name), names)

    def test_reach(self):
        listed = {"coset_count": ["table", "targets"], "reach": ["table", "targets", "seat"],
                  "check_witness": ["table", "targets", "seat", "witness"], "value": ["table", "witness", "seat"]}
        for name, names in listed.items():
            function = getattr(reach_module, name)
            self.assertTrue(inspect.isfunction(function))
            self.assertEqual(function.__module__, "calledseats.reach")
            self.assert_parameters(function, names)

    def assert_functions(self, module, listed):
        for name, names in listed.items():
            function = getattr(module, name)
            self.assertTrue(inspect.isfunction(function))
            self.assertEqual(function.__module__, module.__name__)
            self.assert_parameters(function, names)

    def assert_class(self, module, made, names, methods):
        self.assertTrue(inspect.isclass(made))
        self.assertEqual(made.__module__, module.__name__)
        self.assert_parameters(made, names)
        for method, listed in methods.items():
            self.assertIn(method, vars(made))
            self.assert_parameters(vars(made)[method], ["self"] + listed)

    def test_layers(self):
        seat, plan = ["table", "targets", "seat"], ["table", "targets", "plan"]
        self.assert_functions(layers_module, {
            "min_calls": seat, "layers": ["table", "targets"], "best_call": seat, "check_plan": plan,
            "plan_depths": plan, "make_plan": ["table", "targets"]})

    def test_players(self):
        self.assert_functions(players_module, {
            "avoiding_direction": ["table", "witness", "seat", "call"],
            "play": ["table", "targets", "seat", "caller", "responder", "limit"]})
        names = ["table", "targets", "strategy"]
        self.assert_class(players_module, Responder, names, {"answer": ["seat", "call"]})
        self.assert_class(players_module, Caller, names, {"next_call": ["seat"]})

    def test_records(self):
        self.assert_functions(records_module, {"consistent_witnesses": ["table", "seat", "moves"]})
        self.assert_class(records_module, Record, ["table", "targets", "seat", "moves"],
                          {"seats": [], "calls_to_target": [], "losses": [], "first_mistake": []})

    def test_sums(self):
        two = ["size", "first", "second", "place"]
        self.assert_functions(sums_module, {
            "min_calls_on_ring": ["size", "targets", "place"], "min_calls_two": two, "two_target_sum": two,
            "sum_counts": ["size", "targets", "place", "calls"],
            "check_sum": ["size", "targets", "place", "calls", "counts"],
            "call_from_sum": ["size", "targets", "place", "counts"]})

    def test_tours(self):
        visited = ["table", "visited", "seat"]
        self.assert_functions(tours_module, {
            "max_visited": ["table"], "kept_empty": visited, "tour_call": visited, "max_more": visited,
            "run_tour": ["table", "seat", "responder", "limit"], "check_end": visited + ["witness"]})

    def test_marks(self):
        self.assert_functions(marks_module, {
            "min_targets": ["table"], "minimal_targets": ["table"], "min_more_targets": ["table", "targets"],
            "check_min_targets": ["table", "targets", "count", "witness"],
            "can_avoid": ["table", "seat", "seats"], "avoided_sets": ["table", "seat"]})

    def test_errors(self):
        from calledseats import errors
        for name, attribute in ATTRIBUTES.items():
            self.assert_parameters(getattr(errors, name), [attribute])


if __name__ == "__main__":
    unittest.main()
