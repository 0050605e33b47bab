"""Point 2, and the errors of the interface."""

import unittest

from anypads import errors
from anypads.errors import PadError
from tests.values import ANY, FIELDS


def made(name, values):
    return getattr(errors, name)(*values)


class Errors(unittest.TestCase):
    def test_there_are_twenty_three_and_no_others(self):
        found = {
            name for name, value in vars(errors).items() if isinstance(value, type) and value.__module__ == errors.__name__
        }
        self.assertEqual(found, set(FIELDS) | {"PadError"})
        self.assertEqual(len(FIELDS), 23)

    def test_each_stands_below_pad_error_and_value_error_alone(self):
        for name in FIELDS:
            shape = getattr(errors, name)
            self.assertEqual(shape.__mro__, (shape, PadError) + ValueError.__mro__, name)
        self.assertEqual(PadError.__bases__, (ValueError,))

    def test_none_is_an_error_of_looking_up(self):
        for name, fields in FIELDS.items():
            error = made(name, [None] * len(fields))
            self.assertIsInstance(error, PadError)
            self.assertIsInstance(error, ValueError)
            self.assertNotIsInstance(error, (KeyError, IndexError, LookupError))
            for other in FIELDS:
                self.assertEqual(isinstance(error, getattr(errors, other)), other == name)

    def test_each_keeps_any_values_by_position(self):
        for name, fields in FIELDS.items():
            for value in ANY:
                given = [value, [value], (value,)][:len(fields)]
                error = made(name, given)
                for field, kept in zip(fields, given):
                    self.assertIs(getattr(error, field), kept)

    def test_each_keeps_any_values_by_name(self):
        for name, fields in FIELDS.items():
            for value in ANY:
                given = dict(zip(reversed(fields), [value, [value]]))
                error = getattr(errors, name)(**given)
                for field in fields:
                    self.assertIs(getattr(error, field), given[field])

    def test_two_fields_stand_in_the_written_order(self):
        no_path = errors.NoPath("a.b", 1)
        self.assertEqual([no_path.path, no_path.at], ["a.b", 1])
        large = errors.TooLarge("depth", 4)
        self.assertEqual([large.what, large.most], ["depth", 4])
        mixed = errors.NoPath("x", at=[2])
        self.assertEqual([mixed.path, mixed.at], ["x", [2]])

    def test_the_number_of_fields_is_kept(self):
        for name, fields in FIELDS.items():
            with self.assertRaises(TypeError):
                made(name, [None] * (len(fields) + 1))
            if fields:
                with self.assertRaises(TypeError):
                    made(name, [])

    def test_pad_error_is_made_of_any_values(self):
        for value in ANY:
            for given in [(), (value,), (value, value), (value, [value], (value,), {"a": value})]:
                self.assertIsInstance(PadError(*given), ValueError)

    def test_a_raised_error_is_caught_as_its_base(self):
        for name, fields in FIELDS.items():
            for base in (PadError, ValueError):
                with self.assertRaises(base) as caught:
                    raise made(name, ["a"] * len(fields))
                self.assertEqual(type(caught.exception).__name__, name)

    def test_how_an_error_is_shown(self):
        self.assertEqual(repr(errors.NoPath("count.x", 1)), "NoPath('count.x', 1)")
        self.assertEqual(repr(errors.BadParts(1)), "BadParts(1)")


if __name__ == "__main__":
    unittest.main()
