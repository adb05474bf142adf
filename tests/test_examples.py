"""Each example of the document as it stands, and the interface as it is listed."""

import inspect
import unittest

from calledseats import layers as layers_module
from calledseats import players as players_module
from calledseats import reach as reach_module
from calledseats import records as records_module
from calledseats import tables as tables_module
from calledseats.layers import best_call, check_plan, layers, make_plan, min_calls, plan_depths
from calledseats.players import Caller, Responder, avoiding_direction, play
from calledseats.reach import check_witness, coset_count, reach, value
from calledseats.records import Record, consistent_witnesses
from calledseats.tables import Table
from tests.support import ATTRIBUTES, assert_error


class ExamplesTest(unittest.TestCase):

    def test_1_1(self):
        rings = [0, 3]
        assert_error(self, "InvalidTable", rings, Table, rings)

    def test_1_2(self):
        self.assertEqual(Table([4, 3]).sizes(), (4, 3))

    def test_1_3(self):
        self.assertEqual(Table([4, 3]).count(), 12)

    def test_1_4(self):
        self.assertEqual(Table([4, 3]).moves((0, 2), (1, 2)), ((1, 1), (3, 0)))
        seat = (6,)
        assert_error(self, "InvalidSeat", seat, Table([6]).moves, seat, (1,))

    def test_1_5(self):
        self.assertEqual(Table([6]).step((1,), (2,), 'backward'), (5,))
        assert_error(self, "InvalidDirection", 'back', Table([6]).step, (1,), (2,), 'back')

    def test_1_6(self):
        self.assertEqual(Table([4, 3]).order((2, 1)), 6)

    def test_1_7(self):
        self.assertEqual(Table([6]).halves((4,)), [(2,), (5,)])
        self.assertEqual(Table([6]).halves((3,)), [])

    def test_2_1(self):
        self.assertEqual(coset_count(Table([6]), [(0,)]), 3)
        self.assertEqual(coset_count(Table([6]), [(0,), (2,)]), 1)
        self.assertEqual(coset_count(Table([3, 3]), [(0, 0), (1, 1)]), 3)
        assert_error(self, "InvalidTargets", 1, coset_count, Table([6]), [(0,), (0,)])

    def test_2_2(self):
        self.assertEqual(reach(Table([6]), [(0,)], (3,)), ('reachable',))
        self.assertEqual(reach(Table([6]), [(0,)], (1,))[0], 'unreachable')

    def test_2_3(self):
        self.assertIsNone(check_witness(Table([6]), [(0,)], (1,), (3, (1,), 0)))
        assert_error(self, "InvalidWitness", 1, check_witness, Table([6]), [(0,)], (3,), (3, (1,), 0))

    def test_2_4(self):
        self.assertEqual(value(Table([6]), (3, (1,), 0), (5,)), 2)
        assert_error(self, "InvalidWitness", -1, value, Table([6]), (4, (1,), 0), (5,))

    def test_3_1(self):
        self.assertEqual(min_calls(Table([5]), [(0,), (1,)], (2,)), 2)
        self.assertIsNone(min_calls(Table([3]), [(0,)], (1,)))

    def test_3_2(self):
        self.assertEqual(layers(Table([5]), [(1,), (0,)]), [[(0,), (1,)], [(3,)], [(2,), (4,)]])
        self.assertEqual(layers(Table([4]), [(0,)]), [[(0,)], [(2,)], [(1,), (3,)]])

    def test_3_3(self):
        self.assertEqual(best_call(Table([2]), [(0,)], (1,)), (1,))

    def test_3_4(self):
        assert_error(self, "InvalidWitness", 0, check_plan, Table([4]), [(0,)], [((1,), (1,))])

    def test_3_5(self):
        plan = [((2,), (2,)), ((3,), (1,)), ((1,), (-1,))]
        self.assertEqual(plan_depths(Table([4]), [(0,)], plan), [((2,), 1), ((3,), 2), ((1,), 2)])

    def test_3_6(self):
        self.assertEqual(make_plan(Table([2]), [(0,)]), [((1,), (1,))])

    def test_4_1(self):
        self.assertEqual(avoiding_direction(Table([15]), (3, (1,), 0), (1,), (2,)), 'backward')
        self.assertEqual(avoiding_direction(Table([15]), (3, (1,), 0), (1,), (1,)), 'forward')
        seat = (3,)
        assert_error(self, "InvalidSeat", seat, avoiding_direction, Table([15]), (3, (1,), 0), seat, (1,))

    def test_4_2(self):
        strategy = (3, (1,), 0)
        assert_error(self, "InvalidStrategy", strategy, Responder, Table([15]), [(0,), (1,)], strategy)

    def test_4_3(self):
        responder = Responder(Table([4]), [(0,)], "layers")
        self.assertEqual([responder.answer((1,), (3,)), responder.answer((2,), (2,))], ['backward', 'forward'])
        responder = Responder(Table([5]), [(0,)], ["forward", "backward"])
        self.assertEqual([responder.answer((1,), (2,)), responder.answer((1,), (2,)), responder.answer((1,), (2,))],
                         ['forward', 'backward', 'forward'])

    def test_4_4(self):
        strategy = []
        assert_error(self, "InvalidStrategy", strategy, Caller, Table([4]), [(0,)], strategy)

    def test_4_5(self):
        caller = Caller(Table([4]), [(0,)], [(5,), (-1,)])
        self.assertEqual([caller.next_call((2,)), caller.next_call((2,)), caller.next_call((2,))], [(1,), (3,), (1,)])
        self.assertEqual(Caller(Table([4]), [(0,)], "layers").next_call((2,)), (2,))

    def test_4_6(self):
        table, targets = Table([4]), [(0,)]
        caller = Caller(table, targets, "layers")
        responder = Responder(table, targets, "layers")
        self.assertEqual(play(table, targets, (2,), caller, responder, 10),
                         ([((2,), 'forward')], [(2,), (0,)], 'reached'))
        caller = Caller(table, targets, [(1,)])
        responder = Responder(table, targets, ["backward"])
        self.assertEqual(play(table, targets, (3,), caller, responder, 2),
                         ([((1,), 'backward'), ((1,), 'backward')], [(3,), (2,), (1,)], 'open'))

    def test_5_1(self):
        moves = [((1,), 'forward'), ((1,), 'up')]
        assert_error(self, "InvalidMoves", 1, Record, Table([4]), [(0,)], (1,), moves)

    def test_5_2_to_5_5(self):
        moves = [((1,), 'forward'), ((1,), 'forward'), ((1,), 'forward')]
        game = Record(Table([4]), [(0,)], (1,), moves)
        self.assertEqual(game.seats(), [(1,), (2,), (3,), (0,)])
        self.assertEqual(game.calls_to_target(), 3)
        self.assertEqual(game.losses(), [(0, 0), (2, 0), (0, 1)])
        self.assertEqual(game.first_mistake(), (1, 'caller'))

    def test_5_4(self):
        self.assertEqual(Record(Table([3]), [(0,)], (1,), [((1,), 'backward')]).losses(), [(0, None)])
        assert_error(self, "TooLarge", 300, Record(Table([301]), [(0,)], (1,), []).losses)

    def test_5_5(self):
        self.assertIsNone(Record(Table([4]), [(0,)], (2,), [((2,), 'forward')]).first_mistake())

    def test_5_6(self):
        self.assertEqual(consistent_witnesses(Table([3]), (0,), [((1,), 'backward')]), [(3, (1,), 1)])
        self.assertEqual(consistent_witnesses(Table([3]), (0,), []), [(3, (1,), 1), (3, (1,), 2)])


class InterfaceTest(unittest.TestCase):

    def assert_parameters(self, function, names):
        parameters = inspect.signature(function).parameters.values()
        self.assertEqual([parameter.name for parameter in parameters], names)
        for parameter in parameters:
            self.assertEqual(parameter.kind, inspect.Parameter.POSITIONAL_OR_KEYWORD)
            self.assertIs(parameter.default, inspect.Parameter.empty)

    def test_table(self):
        self.assertEqual(Table.__module__, "calledseats.tables")
        self.assert_parameters(Table, ["rings"])
        listed = {"sizes": [], "count": [], "moves": ["seat", "call"], "step": ["seat", "call", "direction"],
                  "order": ["seat"], "halves": ["seat"]}
        for name, names in listed.items():
            self.assertIn(name, vars(tables_module.Table))
            self.assert_parameters(getattr(Table([6]), name), names)

    def test_reach(self):
        listed = {"coset_count": ["table", "targets"], "reach": ["table", "targets", "seat"],
                  "check_witness": ["table", "targets", "seat", "witness"], "value": ["table", "witness", "seat"]}
        for name, names in listed.items():
            function = getattr(reach_module, name)
            self.assertTrue(inspect.isfunction(function))
            self.assertEqual(function.__module__, "calledseats.reach")
            self.assert_parameters(function, names)

    def assert_functions(self, module, listed):
        for name, names in listed.items():
            function = getattr(module, name)
            self.assertTrue(inspect.isfunction(function))
            self.assertEqual(function.__module__, module.__name__)
            self.assert_parameters(function, names)

    def assert_class(self, module, made, names, methods):
        self.assertTrue(inspect.isclass(made))
        self.assertEqual(made.__module__, module.__name__)
        self.assert_parameters(made, names)
        for method, listed in methods.items():
            self.assertIn(method, vars(made))
            self.assert_parameters(vars(made)[method], ["self"] + listed)

    def test_layers(self):
        seat, plan = ["table", "targets", "seat"], ["table", "targets", "plan"]
        self.assert_functions(layers_module, {
            "min_calls": seat, "layers": ["table", "targets"], "best_call": seat, "check_plan": plan,
            "plan_depths": plan, "make_plan": ["table", "targets"]})

    def test_players(self):
        self.assert_functions(players_module, {
            "avoiding_direction": ["table", "witness", "seat", "call"],
            "play": ["table", "targets", "seat", "caller", "responder", "limit"]})
        names = ["table", "targets", "strategy"]
        self.assert_class(players_module, Responder, names, {"answer": ["seat", "call"]})
        self.assert_class(players_module, Caller, names, {"next_call": ["seat"]})

    def test_records(self):
        self.assert_functions(records_module, {"consistent_witnesses": ["table", "seat", "moves"]})
        self.assert_class(records_module, Record, ["table", "targets", "seat", "moves"],
                          {"seats": [], "calls_to_target": [], "losses": [], "first_mistake": []})

    def test_errors(self):
        from calledseats import errors
        for name, attribute in ATTRIBUTES.items():
            self.assert_parameters(getattr(errors, name), [attribute])


if __name__ == "__main__":
    unittest.main()
