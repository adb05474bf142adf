"""The section "Errors" and rule [0.5], as far as it concerns the errors themselves."""

import unittest

from calledseats import errors
from tests.support import ATTRIBUTES, HUGE, not_integers


class ErrorsTest(unittest.TestCase):

    def test_base(self):
        self.assertTrue(issubclass(errors.SeatError, ValueError))
        self.assertIsInstance(errors.SeatError(), ValueError)

    def test_eleven_direct_subclasses(self):
        found = [name for name, held in vars(errors).items()
                 if isinstance(held, type) and issubclass(held, errors.SeatError) and held is not errors.SeatError]
        self.assertEqual(sorted(found), sorted(ATTRIBUTES))
        self.assertEqual(len(found), 11)
        for name in ATTRIBUTES:
            with self.subTest(name=name):
                self.assertEqual(getattr(errors, name).__bases__, (errors.SeatError,))
                self.assertEqual(getattr(errors, name).__module__, "calledseats.errors")

    def test_value_by_position_and_by_keyword(self):
        for name, attribute in ATTRIBUTES.items():
            with self.subTest(name=name):
                made = getattr(errors, name)
                for stored in not_integers() + [0, -1, 300, HUGE, -HUGE, [HUGE], {HUGE: [HUGE]}, (HUGE,), "size"]:
                    self.assertIs(getattr(made(stored), attribute), stored)
                    self.assertIs(getattr(made(**{attribute: stored}), attribute), stored)

    def test_exactly_one_value(self):
        for name, attribute in ATTRIBUTES.items():
            with self.subTest(name=name):
                made = getattr(errors, name)
                with self.assertRaises(TypeError):
                    made()
                with self.assertRaises(TypeError):
                    made(1, 2)
                with self.assertRaises(TypeError):
                    made(other=1)

    def test_caught_as_seat_error_and_value_error(self):
        for name in ATTRIBUTES:
            with self.subTest(name=name):
                with self.assertRaises(errors.SeatError):
                    raise getattr(errors, name)(HUGE)
                with self.assertRaises(ValueError):
                    raise getattr(errors, name)(HUGE)

    def test_no_error_is_of_another_class(self):
        for name in ATTRIBUTES:
            for other in ATTRIBUTES:
                with self.subTest(name=name, other=other):
                    self.assertEqual(isinstance(getattr(errors, name)(1), getattr(errors, other)), name == other)

    def test_errors_keep_the_very_list(self):
        rings = [0, 3]
        error = errors.InvalidTable(rings)
        rings.append(4)
        self.assertIs(error.rings, rings)


if __name__ == "__main__":
    unittest.main()
