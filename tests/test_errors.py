"""The refusals [5]."""

import unittest

from planstore import errors
from planstore.errors import StoreError

VALUES = {
    "NoSchema": (),
    "TooMany": (),
    "Fell": (),
    "NoTable": ("table",),
    "NoOrder": ("table", "column"),
    "BadRow": ("table",),
    "NoRow": ("table", "key"),
    "NoMake": ("number",),
    "Over": ("number",),
    "Beaten": ("table", "key", "by"),
    "NoQuestion": ("place",),
    "NoColumn": ("name",),
    "Alike": ("name",),
    "WrongKind": ("name",),
    "NoStep": ("place",),
    "NoPlan": (),
    "NoLine": (),
}


class ErrorsTest(unittest.TestCase):
    def test_all_seventeen_are_there(self):
        self.assertEqual(len(VALUES), 17)
        for name in VALUES:
            self.assertTrue(isinstance(getattr(errors, name), type), name)

    def test_each_stands_straight_under_store_error(self):
        self.assertEqual(StoreError.__bases__, (ValueError,))
        for name in VALUES:
            self.assertEqual(getattr(errors, name).__bases__, (StoreError,), name)

    def test_none_stands_under_another(self):
        for name in VALUES:
            for other in VALUES:
                if name != other:
                    self.assertFalse(issubclass(getattr(errors, name), getattr(errors, other)))

    def test_each_has_its_values_by_name_in_order(self):
        for name, fields in VALUES.items():
            given = [("thing", place) for place in range(len(fields))]
            error = getattr(errors, name)(*given)
            self.assertEqual([getattr(error, field) for field in fields], given, name)

    def test_values_may_be_any_things(self):
        for thing in (None, [], {}, True, object()):
            self.assertIs(errors.NoTable(thing).table, thing)
            self.assertIs(errors.NoMake(thing).number, thing)
            self.assertIs(errors.NoOrder("people", thing).column, thing)
            self.assertIs(errors.NoColumn(thing).name, thing)
            self.assertIs(errors.NoRow("people", thing).key, thing)

    def test_each_is_taken_as_store_error_and_as_value_error(self):
        for name, fields in VALUES.items():
            for error in (StoreError, ValueError):
                with self.assertRaises(error):
                    raise getattr(errors, name)(*fields)


if __name__ == "__main__":
    unittest.main()
