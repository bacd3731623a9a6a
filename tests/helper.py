"""What the tests have in common: a schema, odd things, and how a refusal is looked at."""

import unittest

from planstore.schema import Schema

TABLES = [
    ("people", [("id", "number"), ("city", "word"), ("age", "number")]),
    ("cities", [("name", "word"), ("size", "number")]),
]
ORDERS = [("people", "city"), ("people", "age")]
FIRST_ROWS = {
    "people": [(7, "rome", 30), (-2, "oslo", 30), (5, "oslo", 12)],
    "cities": [("rome", 9), ("oslo", 3)],
}

# Things that may be keys of a dict, and are no names of tables or columns here.
ODD_KEYS = [
    None, True, False, 0, 7, -1, 1.0, 0.0, "", " ", "nosuch", "People", "people ", "x y", "ninelette",
    b"people", (), ("people",), ("id",), frozenset(), object(), 10 ** 39, len, int,
]
ODD_THINGS = ODD_KEYS + [[], ["people"], {}, {"people": "id"}, set(), {"people"}, bytearray(b"id")]


def small_schema():
    return Schema(TABLES, ORDERS)


def whole(disk):
    """All that a disk has, and how many writes have come."""
    return (disk.log_rows(), [disk.page(slot) for slot in range(8)], disk.writes())


class Case(unittest.TestCase):
    def refused(self, error, values, call, *args):
        """The call is refused with just this class, which has just these values by name."""
        with self.assertRaises(error) as caught:
            call(*args)
        self.assertIs(type(caught.exception), error)
        for name, value in values.items():
            got = getattr(caught.exception, name)
            # True is like 1, so the class of what is told counts, too
            self.assertIs(type(got), type(value))
            self.assertEqual(got, value)

    def same(self, got, wanted):
        """Alike in value and, all the way down, in kind."""
        self.assertEqual(got, wanted)
        self.assertEqual(repr(got), repr(wanted))
