"""The refusals of the interface: their bases, their values, their fields."""

import copy
import unittest

from leastblame import errors

REFUSALS = {
    "NoWork": (ValueError, ["part", "number", "tie"]),
    "NoText": (ValueError, ["row"]),
    "NoWorld": (ValueError, []),
    "NoLot": (ValueError, ["number"]),
    "NoLook": (ValueError, ["number"]),
    "NoAim": (ValueError, []),
    "NoWays": (ValueError, ["part"]),
    "NoWires": (ValueError, []),
    "NoStages": (ValueError, ["number"]),
    "NoBeats": (ValueError, ["which"]),
    "NoNames": (ValueError, ["which"]),
    "NoRow": (ValueError, []),
    "NoWire": (KeyError, ["name"]),
    "NoPart": (KeyError, ["name"]),
    "NoName": (KeyError, ["name"]),
    "NoNumber": (IndexError, ["number"]),
    "NoWorlds": (RuntimeError, []),
    "Bare": (RuntimeError, []),
    "TooMany": (OverflowError, ["many"]),
}


class Refusals(unittest.TestCase):
    def test_all_nineteen_are_there(self):
        self.assertEqual(len(REFUSALS), 19)
        for name in REFUSALS:
            self.assertTrue(hasattr(errors, name), name)

    def test_each_is_under_its_own_error(self):
        for name, (base, fields) in REFUSALS.items():
            self.assertTrue(issubclass(getattr(errors, name), base), name)

    def test_none_is_under_another(self):
        for one in REFUSALS:
            for other in REFUSALS:
                if one != other:
                    self.assertFalse(issubclass(getattr(errors, one), getattr(errors, other)), (one, other))

    def test_values_are_fields_in_order_just_as_they_are(self):
        for name, (base, fields) in REFUSALS.items():
            for made in (lambda: object(), lambda: [[]], lambda: {"a": 1}, lambda: None, lambda: "x", lambda: True):
                values = [made() for field in fields]
                error = getattr(errors, name)(*values)
                self.assertEqual(sorted(vars(error)), sorted(fields), name)
                for field, value in zip(fields, values):
                    self.assertIs(getattr(error, field), value)

    def test_unlike_values_keep_their_places(self):
        error = errors.NoWork("ties", 3, 5)
        self.assertEqual((error.part, error.number, error.tie), ("ties", 3, 5))

    def test_values_may_be_handed_in_by_name(self):
        for name, (base, fields) in REFUSALS.items():
            values = {field: [field] for field in fields}
            error = getattr(errors, name)(**values)
            for field in fields:
                self.assertIs(getattr(error, field), values[field])

    def test_values_of_one_change_no_other(self):
        one, other = errors.NoLot(1), errors.NoLot(2)
        self.assertEqual((one.number, other.number), (1, 2))

    def test_they_can_be_raised_shown_and_copied(self):
        for name, (base, fields) in REFUSALS.items():
            with self.assertRaises(base) as caught:
                raise getattr(errors, name)(*fields)
            self.assertIsInstance(str(caught.exception), str)
            self.assertEqual(vars(copy.copy(caught.exception)), vars(caught.exception))


if __name__ == "__main__":
    unittest.main()
