"""Each example of the document as it stands, and the interface as it is listed."""

import inspect
import unittest

from calledseats import reach as reach_module
from calledseats import tables as tables_module
from calledseats.reach import check_witness, coset_count, reach, value
from calledseats.tables import Table
from tests.support import ATTRIBUTES, assert_error


class ExamplesTest(unittest.TestCase):

    def test_1_1(self):
        rings = [0, 3]
        assert_error(self, "InvalidTable", rings, Table, rings)

    def test_1_2(self):
        self.assertEqual(Table([4, 3]).sizes(), (4, 3))

    def test_1_3(self):
        self.assertEqual(Table([4, 3]).count(), 12)

    def test_1_4(self):
        self.assertEqual(Table([4, 3]).moves((0, 2), (1, 2)), ((1, 1), (3, 0)))
        seat = (6,)
        assert_error(self, "InvalidSeat", seat, Table([6]).moves, seat, (1,))

    def test_1_5(self):
        self.assertEqual(Table([6]).step((1,), (2,), 'backward'), (5,))
        assert_error(self, "InvalidDirection", 'back', Table([6]).step, (1,), (2,), 'back')

    def test_1_6(self):
        self.assertEqual(Table([4, 3]).order((2, 1)), 6)

    def test_1_7(self):
        self.assertEqual(Table([6]).halves((4,)), [(2,), (5,)])
        self.assertEqual(Table([6]).halves((3,)), [])

    def test_2_1(self):
        self.assertEqual(coset_count(Table([6]), [(0,)]), 3)
        self.assertEqual(coset_count(Table([6]), [(0,), (2,)]), 1)
        self.assertEqual(coset_count(Table([3, 3]), [(0, 0), (1, 1)]), 3)
        assert_error(self, "InvalidTargets", 1, coset_count, Table([6]), [(0,), (0,)])

    def test_2_2(self):
        self.assertEqual(reach(Table([6]), [(0,)], (3,)), ('reachable',))
        self.assertEqual(reach(Table([6]), [(0,)], (1,))[0], 'unreachable')

    def test_2_3(self):
        self.assertIsNone(check_witness(Table([6]), [(0,)], (1,), (3, (1,), 0)))
        assert_error(self, "InvalidWitness", 1, check_witness, Table([6]), [(0,)], (3,), (3, (1,), 0))

    def test_2_4(self):
        self.assertEqual(value(Table([6]), (3, (1,), 0), (5,)), 2)
        assert_error(self, "InvalidWitness", -1, value, Table([6]), (4, (1,), 0), (5,))


class InterfaceTest(unittest.TestCase):

    def assert_parameters(self, function, names):
        parameters = inspect.signature(function).parameters.values()
        self.assertEqual([parameter.name for parameter in parameters], names)
        for parameter in parameters:
            self.assertEqual(parameter.kind, inspect.Parameter.POSITIONAL_OR_KEYWORD)
            self.assertIs(parameter.default, inspect.Parameter.empty)

    def test_table(self):
        self.assertEqual(Table.__module__, "calledseats.tables")
        self.assert_parameters(Table, ["rings"])
        listed = {"sizes": [], "count": [], "moves": ["seat", "call"], "step": ["seat", "call", "direction"],
                  "order": ["seat"], "halves": ["seat"]}
        for name, names in listed.items():
            self.assertIn(name, vars(tables_module.Table))
            self.assert_parameters(getattr(Table([6]), name), names)

    def test_reach(self):
        listed = {"coset_count": ["table", "targets"], "reach": ["table", "targets", "seat"],
                  "check_witness": ["table", "targets", "seat", "witness"], "value": ["table", "witness", "seat"]}
        for name, names in listed.items():
            function = getattr(reach_module, name)
            self.assertTrue(inspect.isfunction(function))
            self.assertEqual(function.__module__, "calledseats.reach")
            self.assert_parameters(function, names)

    def test_errors(self):
        from calledseats import errors
        for name, attribute in ATTRIBUTES.items():
            self.assert_parameters(getattr(errors, name), [attribute])


if __name__ == "__main__":
    unittest.main()
