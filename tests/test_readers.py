"""Readers at a make [31]."""

import unittest

from helper import Case, FIRST_ROWS, ODD_KEYS, small_schema
from planstore.errors import NoMake, NoOrder, NoTable
from planstore.makes import Makes
from planstore.readers import AtMake, Reader

NO_NUMBERS = (True, False, 7.0, None, "7", "", "oslo", (7,), (), b"7", frozenset(), 10 ** 9 + 1)


class ReaderTest(Case):
    def setUp(self):
        self.makes = Makes(small_schema(), FIRST_ROWS)

    def told(self, reader):
        return (reader.rows_of("people"), reader.rows_of("cities"), reader.row_of("people", 7),
                reader.row_of("people", 1), reader.row_of("cities", "oslo"), reader.order_of("people", "id"),
                reader.order_of("people", "city"), reader.order_of("people", "age"), reader.order_of("cities", "name"))

    def test_stands_under_reader(self):
        self.assertTrue(issubclass(AtMake, Reader))
        self.assertIsInstance(AtMake(self.makes, 0), Reader)

    def test_rows_and_orders(self):
        reader = AtMake(self.makes, 0)
        self.same(reader.rows_of("people"), [(-2, "oslo", 30), (5, "oslo", 12), (7, "rome", 30)])
        self.same(reader.rows_of("cities"), [("oslo", 3), ("rome", 9)])
        self.same(reader.row_of("people", 5), (5, "oslo", 12))
        self.same(reader.row_of("cities", "rome"), ("rome", 9))
        self.assertIsNone(reader.row_of("people", 6))
        self.assertIsNone(reader.row_of("cities", "bergen"))
        self.same(reader.order_of("people", "id"), [(-2, -2), (5, 5), (7, 7)])
        self.same(reader.order_of("people", "city"), [("oslo", -2), ("oslo", 5), ("rome", 7)])
        self.same(reader.order_of("people", "age"), [(12, 5), (30, -2), (30, 7)])
        self.same(reader.order_of("cities", "name"), [("oslo", "oslo"), ("rome", "rome")])

    def test_it_goes_on_when_other_makes_come(self):
        reader = AtMake(self.makes, 0)
        before = self.told(reader)
        self.makes.add_make([("people", 7, None), ("people", 1, (1, "rome", 1)), ("cities", "oslo", ("oslo", 4))])
        self.same(self.told(reader), before)
        later = AtMake(self.makes, 1)
        self.same(later.rows_of("people"), [(-2, "oslo", 30), (1, "rome", 1), (5, "oslo", 12)])
        self.same(later.row_of("cities", "oslo"), ("oslo", 4))
        self.makes.add_make([])
        self.makes.sweep([0])
        self.same(self.told(reader), before)

    def test_what_is_no_value_of_the_keys_kind(self):
        self.makes.add_make([("people", 0, (0, "a", 1)), ("people", 1, (1, "a", 1))])
        reader = AtMake(self.makes, 1)
        for key in NO_NUMBERS:
            self.assertIsNone(reader.row_of("people", key))
        for key in (7, True, None, "Rome", ("rome",), b"rome"):
            self.assertIsNone(reader.row_of("cities", key))

    def test_no_table(self):
        reader = AtMake(self.makes, 0)
        for thing in ODD_KEYS + ["id"]:
            values = {"table": thing}
            self.refused(NoTable, values, reader.row_of, thing, 7)
            self.refused(NoTable, values, reader.row_of, thing, None)
            self.refused(NoTable, values, reader.rows_of, thing)
            self.refused(NoTable, values, reader.order_of, thing, "id")
            self.refused(NoTable, values, reader.order_of, thing, None)

    def test_no_order(self):
        reader = AtMake(self.makes, 0)
        for thing in ODD_KEYS + ["name", "size", "people"]:
            self.refused(NoOrder, {"table": "people", "column": thing}, reader.order_of, "people", thing)
        for thing in ODD_KEYS + ["size", "city", "id"]:
            self.refused(NoOrder, {"table": "cities", "column": thing}, reader.order_of, "cities", thing)

    def test_a_make_that_is_told_no_more(self):
        reader = AtMake(self.makes, 0)
        self.makes.add_make([])
        self.makes.sweep([])
        values = {"number": 0}
        for table in ("people", "nosuch", None, ()):
            self.refused(NoMake, values, reader.row_of, table, 7)
            self.refused(NoMake, values, reader.rows_of, table)
            self.refused(NoMake, values, reader.order_of, table, "id")
            self.refused(NoMake, values, reader.order_of, table, None)

    def test_what_is_told_is_the_askers_own(self):
        reader = AtMake(self.makes, 0)
        before = self.told(reader)
        reader.rows_of("people").clear()
        reader.order_of("people", "city").append(("x", 1))
        self.same(self.told(reader), before)


if __name__ == "__main__":
    unittest.main()
