"""The errors of the interface."""

import copy
import pickle
import unittest

from freelots import errors

FIELDS = {
    "BadField": ["number"], "BadRows": ["row"], "BadLot": ["place"], "BadCount": ["count"], "BadTables": ["place"],
    "BadSizes": ["place"], "BadWeb": ["place"], "TooMany": ["lot"], "NoRow": ["row"], "BadText": ["line"],
    "NoDeed": [], "NotBase": ["lot"], "BadPrices": ["index"], "NoughtRow": ["index"], "BadTimes": ["index"],
    "UnlikeRows": [], "BadClass": ["number"], "NotWhole": [], "BadPrime": ["prime"], "BadHand": ["hand"],
    "Over": [], "BadRoot": ["root"],
}
VALUES = [0, -1, 10 ** 20000, -10 ** 20000, "a", "", None, True, [1, [2]], (1, 2), {1: 2}, object(), 1.5, b"x"]


class ErrorsTest(unittest.TestCase):

    def test_family(self):
        self.assertEqual(errors.LotError.__bases__, (ValueError,))
        for name in FIELDS:
            kind = getattr(errors, name)
            self.assertEqual(kind.__bases__, (errors.LotError,), name)
            self.assertEqual(kind.__module__, "freelots.errors")

    def test_fields_by_position_and_by_name(self):
        for name, fields in FIELDS.items():
            kind = getattr(errors, name)
            for value in VALUES:
                by_position = kind(*[value for field in fields])
                by_name = kind(**{field: value for field in fields})
                for field in fields:
                    self.assertIs(getattr(by_position, field), value)
                    self.assertIs(getattr(by_name, field), value)

    def test_fields_are_asked_for(self):
        for name, fields in FIELDS.items():
            if fields:
                with self.assertRaises(TypeError):
                    getattr(errors, name)()

    def test_any_value_can_be_shown(self):
        for name, fields in FIELDS.items():
            for value in VALUES:
                error = getattr(errors, name)(*[value for field in fields])
                self.assertIsInstance(str(error) + repr(error), str)

    def test_root_with_any_value(self):
        for value in VALUES:
            with self.assertRaises(ValueError):
                raise errors.LotError(value)

    def test_raised_and_caught(self):
        for name, fields in FIELDS.items():
            with self.assertRaises(errors.LotError):
                raise getattr(errors, name)(*fields)

    def test_copies(self):
        for name, fields in FIELDS.items():
            error = getattr(errors, name)(*[[1, 2] for field in fields])
            for other in (copy.copy(error), pickle.loads(pickle.dumps(error))):
                self.assertIs(other.__class__, error.__class__)
                for field in fields:
                    self.assertEqual(getattr(other, field), [1, 2])


if __name__ == "__main__":
    unittest.main()
