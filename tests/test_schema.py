"""Schemas and their texts [13], [14], [15], and [4], [5] of them."""

import unittest

from helper import Case, ODD_THINGS, ORDERS, TABLES, small_schema
from planstore.errors import NoColumn, NoSchema, NoTable
from planstore.schema import Schema, schema_in, schema_text

TOLD = (
    (
        ("people", (("id", "number"), ("city", "word"), ("age", "number"))),
        ("cities", (("name", "word"), ("size", "number"))),
    ),
    (("people", "city"), ("people", "age")),
)
TEXT = "people id:number city:word age:number | cities name:word size:number | order people city | order people age"
COLUMN = ("id", "number")
FOUR = [("a", "number"), ("b", "word"), ("c", "number"), ("d", "word")]


def one_table(columns):
    return [("people", columns)]


class MadeTest(Case):
    def no_schema(self, *args):
        self.refused(NoSchema, {}, Schema, *args)

    def test_lists_and_tuples(self):
        for tables in (TABLES, tuple(TABLES), TOLD[0], list(TOLD[0])):
            for orders in (ORDERS, tuple(ORDERS), TOLD[1]):
                self.same(Schema(tables, orders).told(), TOLD)

    def test_without_orders(self):
        for schema in (Schema(TABLES), Schema(TABLES, None), Schema(TABLES, []), Schema(TABLES, ()),
                       Schema(TABLES, orders=None)):
            self.same(schema.told(), (TOLD[0], ()))

    def test_one_to_four_tables(self):
        tables = [(name, [COLUMN]) for name in ("a", "b", "c", "d", "e")]
        for many in (1, 2, 3, 4):
            self.assertEqual(Schema(tables[:many]).table_names(), ["a", "b", "c", "d"][:many])
        for none in ([], (), tables, tuple(tables)):
            self.no_schema(none)

    def test_one_to_four_columns(self):
        for many in (1, 2, 3, 4):
            self.assertEqual(Schema(one_table(FOUR[:many])).columns_of("people"), FOUR[:many])
        for none in ([], (), FOUR + [("e", "word")], tuple(FOUR) + (("e", "word"),)):
            self.no_schema(one_table(none))

    def test_none_to_four_orders(self):
        tables = [("one", FOUR), ("two", FOUR)]
        orders = [("one", "b"), ("one", "c"), ("two", "d"), ("two", "b"), ("one", "d")]
        for many in range(5):
            self.assertEqual(Schema(tables, orders[:many]).told()[1], tuple(orders[:many]))
        self.no_schema(tables, orders)
        self.no_schema(tables, tuple(orders))

    def test_like_names_that_may_be(self):
        tables = [("a", [("a", "word"), ("b", "word")]), ("b", [("a", "number"), ("b", "word")])]
        schema = Schema(tables, [("a", "b"), ("b", "b")])
        self.assertEqual(schema.kind_of("b", "a"), "number")
        self.assertEqual(schema.table_names(), ["a", "b"])

    def test_like_names_that_may_not(self):
        self.no_schema([("a", [COLUMN]), ("a", [COLUMN])])
        self.no_schema([("a", [COLUMN]), ("b", [COLUMN]), ("a", [("x", "word")])])
        self.no_schema(one_table([COLUMN, COLUMN]))
        self.no_schema(one_table([("a", "number"), ("b", "word"), ("a", "word")]))
        self.no_schema(TABLES, [("people", "city"), ("people", "city")])

    def test_names(self):
        for name in ("a", "abcdefgh"):
            self.assertEqual(Schema([(name, [(name, "word")])]).table_names(), [name])
        for name in ("", "abcdefghi", "A", "a1", "a b", "a:b", "\u00e4", None, 1, True, b"a", ["a"], ("a",)):
            self.no_schema([(name, [COLUMN])])
            self.no_schema(one_table([(name, "word")]))
            self.no_schema(one_table([COLUMN, (name, "word")]))

    def test_kinds(self):
        for kind in ("", "Number", "numbers", "text", " word", None, 0, True, int, ["word"], ("word",), {}):
            self.no_schema(one_table([("id", kind)]))
            self.no_schema(one_table([COLUMN, ("x", kind)]))

    def test_orders_that_are_none(self):
        for order in (("people", "id"), ("people", "name"), ("people", "people"), ("nosuch", "city"),
                      ("city", "people"), ("cities", "name"), ("cities", "city"), ("people",), (),
                      ("people", "city", "age"), ["people", "city"], "people", "pc", None, 1, True, {},
                      ("people", None), (None, "city"), ("people", ["city"]), (["people"], "city"), ("", "")):
            self.no_schema(TABLES, [order])
            self.no_schema(TABLES, [("people", "city"), order])

    def test_other_things_as_a_whole(self):
        for thing in ODD_THINGS:
            self.no_schema(thing)
            if thing is not None and thing != () and thing != []:
                self.no_schema(TABLES, thing)
        self.no_schema(dict(TABLES))
        self.no_schema(iter(TABLES))
        self.no_schema(TABLES, dict(ORDERS))
        self.no_schema(TABLES, iter(ORDERS))
        self.no_schema(TABLES, set(ORDERS))
        self.no_schema("ab")
        self.no_schema(small_schema())

    def test_other_things_as_a_table(self):
        for thing in ODD_THINGS + [["people", [COLUMN]], ("people",), ("people", [COLUMN], []), "ab"]:
            self.no_schema([thing])
            self.no_schema(TABLES + [thing])

    def test_other_things_as_columns(self):
        for thing in ODD_THINGS + [dict([COLUMN]), {COLUMN}, "id", COLUMN, iter([COLUMN])]:
            self.no_schema(one_table(thing))

    def test_other_things_as_a_column(self):
        for thing in ODD_THINGS + [["id", "number"], ("id",), ("id", "number", "x"), "ab"]:
            self.no_schema(one_table([thing]))
            self.no_schema(one_table([("a", "number"), thing]))

    def test_what_is_handed_in_is_not_changed_and_may_be_changed(self):
        columns = [("id", "number"), ("city", "word")]
        tables = [("people", columns)]
        orders = [("people", "city")]
        schema = Schema(tables, orders)
        self.assertEqual((tables, orders), ([("people", [("id", "number"), ("city", "word")])], [("people", "city")]))
        told = schema.told()
        columns.append(("age", "number"))
        columns[0] = ("no", "word")
        tables.append(("cities", [COLUMN]))
        orders.clear()
        self.same(schema.told(), told)
        self.assertEqual(schema.table_names(), ["people"])
        self.assertEqual(schema.columns_of("people"), [("id", "number"), ("city", "word")])
        self.assertIs(schema.has_order("people", "city"), True)
        self.assertIs(schema.fits("people", (1, "oslo")), True)


class ToldTest(Case):
    def setUp(self):
        self.schema = small_schema()

    def test_table_names(self):
        self.same(self.schema.table_names(), ["people", "cities"])
        self.same(Schema([("b", [COLUMN]), ("c", [COLUMN]), ("a", [COLUMN])]).table_names(), ["b", "c", "a"])

    def test_columns_of(self):
        self.same(self.schema.columns_of("people"), [("id", "number"), ("city", "word"), ("age", "number")])
        self.same(self.schema.columns_of("cities"), [("name", "word"), ("size", "number")])
        self.same(Schema(TOLD[0]).columns_of("cities"), [("name", "word"), ("size", "number")])

    def test_kind_of(self):
        for table, columns in TABLES:
            for name, kind in columns:
                self.same(self.schema.kind_of(table, name), kind)

    def test_has_order(self):
        for column, told in (("id", True), ("city", True), ("age", True), ("size", False)):
            self.assertIs(self.schema.has_order("people", column), told)
        self.assertIs(self.schema.has_order("cities", "name"), True)
        self.assertIs(self.schema.has_order("cities", "size"), False)
        self.assertIs(self.schema.has_order("cities", "city"), False)
        self.assertIs(Schema(TABLES).has_order("people", "city"), False)
        for thing in ODD_THINGS:
            self.assertIs(self.schema.has_order("people", thing), False)

    def test_an_order_of_one_table_is_none_of_another(self):
        schema = Schema([("a", FOUR), ("b", FOUR)], [("b", "c")])
        self.assertIs(schema.has_order("a", "c"), False)
        self.assertIs(schema.has_order("b", "c"), True)

    def test_fits(self):
        for row in ((1, "rome", 2), (0, "a", 0), (-10 ** 9, "abcdefgh", 10 ** 9)):
            self.assertIs(self.schema.fits("people", row), True)
        self.assertIs(self.schema.fits("cities", ("rome", 3)), True)

    def test_fits_not(self):
        for row in ([1, "rome", 2], (1, "rome"), (1, "rome", 2, 3), (), (1, 2, "rome"), ("1", "rome", 2),
                    (True, "rome", 2), (1, "rome", False), (1.0, "rome", 2), (1, "Rome", 2), (1, "", 2),
                    (1, "abcdefghi", 2), (10 ** 9 + 1, "rome", 2), (1, "rome", -10 ** 9 - 1), (None, "rome", 2),
                    (1, None, 2), (1, ["rome"], 2), ((1,), "rome", 2), ("rome", 3), ("rome", 1, 2)):
            self.assertIs(self.schema.fits("people", row), False, row)
        for thing in ODD_THINGS:
            self.assertIs(self.schema.fits("people", thing), False)

    def test_no_table(self):
        for thing in ODD_THINGS + ["id", "order"]:
            values = {"table": thing}
            self.refused(NoTable, values, self.schema.columns_of, thing)
            self.refused(NoTable, values, self.schema.kind_of, thing, "id")
            self.refused(NoTable, values, self.schema.kind_of, thing, None)
            self.refused(NoTable, values, self.schema.has_order, thing, "id")
            self.refused(NoTable, values, self.schema.has_order, thing, None)
            self.refused(NoTable, values, self.schema.fits, thing, (1, "rome", 2))
            self.refused(NoTable, values, self.schema.fits, thing, None)

    def test_no_column(self):
        for thing in ODD_THINGS + ["name", "size", "people"]:
            self.refused(NoColumn, {"name": thing}, self.schema.kind_of, "people", thing)

    def test_what_is_told_is_the_askers_own(self):
        self.schema.table_names().clear()
        self.schema.columns_of("people").append(("x", "word"))
        self.schema.columns_of("cities")[0] = ("x", "number")
        self.same(self.schema.table_names(), ["people", "cities"])
        self.same(self.schema.told(), TOLD)
        self.same(self.schema.columns_of("people"), list(TOLD[0][0][1]))
        self.same(self.schema.columns_of("cities"), list(TOLD[0][1][1]))

    def test_a_schema_is_made_of_what_is_told(self):
        told = self.schema.told()
        self.same(Schema(told[0], told[1]).told(), TOLD)


class TextTest(Case):
    def test_the_text_of_the_document(self):
        text = "people id:number city:word | cities name:word | order people city"
        schema = Schema([("people", [("id", "number"), ("city", "word")]), ("cities", [("name", "word")])],
                        [("people", "city")])
        self.same(schema_text(schema), text)
        self.same(schema_in(text).told(), schema.told())

    def test_written_and_read(self):
        for schema, text in (
            (small_schema(), TEXT),
            (Schema([("a", [("b", "word")])]), "a b:word"),
            (Schema([("b", [COLUMN]), ("a", [COLUMN])]), "b id:number | a id:number"),
            (Schema([("t", FOUR), ("s", FOUR)], [("t", "c"), ("s", "d"), ("t", "b"), ("s", "b")]),
             "t a:number b:word c:number d:word | s a:number b:word c:number d:word"
             " | order t c | order s d | order t b | order s b"),
            (Schema([("order", [("order", "word"), ("word", "number")])], [("order", "word")]),
             "order order:word word:number | order order word"),
        ):
            self.same(schema_text(schema), text)
            self.assertIsInstance(schema_in(text), Schema)
            self.same(schema_in(text).told(), schema.told())
            self.same(schema_text(schema_in(text)), text)

    def test_what_is_no_such_text(self):
        for text in (
            "", " ", "|", " | ", "people", "order", "order people city", "people id", "people id:", "people :number",
            "people id:numbers", "people id:Number", "people id:number:", "people id:number:word", "people: id:number",
            "people id:number ", " people id:number", "people  id:number", "people id:number\n", "\npeople id:number",
            "people\nid:number", "people id:number |", "| people id:number", "people id:number | ",
            " | people id:number", "people id:number|cities name:word", "people id:number  | cities name:word",
            "people id:number | people id:number", "people id:number id:word", "People id:number", "people ID:number",
            "ninelette id:number", "people ninelette:number", "people id:number | order people id",
            "people id:number city:word | order people name", "people id:number city:word | order cities city",
            "people id:number city:word | people city", "people id:number city:word | orders people city",
            "people id:number city:word | order people", "people id:number city:word | order people city id",
            "people id:number city:word | order people city | order people city",
            "people id:number city:word | order people city | cities name:word",
            "order people city | people id:number city:word", "people id:number city:word | Order people city",
            "people id:number city:word | order  people city", "people id:number city:word | order people city ",
            "people id number", "people id:number, city:word", "people a:word b:word c:word d:word e:word",
            "a id:word | b id:word | c id:word | d id:word | e id:word", ":", "a:b", "a:word b:word", "x" * 5000,
        ):
            self.refused(NoSchema, {}, schema_in, text)

    def test_five_orders(self):
        text = "t a:number b:word c:number d:word | s a:number b:word c:number d:word"
        orders = [" | order t b", " | order t c", " | order t d", " | order s b", " | order s c"]
        self.assertEqual(len(schema_in(text + "".join(orders[:4])).told()[1]), 4)
        self.refused(NoSchema, {}, schema_in, text + "".join(orders))

    def test_whatever_thing_it_is(self):
        for thing in ODD_THINGS + [TOLD, list(TOLD), TABLES, small_schema(), TEXT.encode(), [TEXT]]:
            self.refused(NoSchema, {}, schema_in, thing)

    def test_each_beginning_and_each_sign_more(self):
        whole = ("people id:number city:word age:number | cities name:word size:number | order people city",
                 "people id:number city:word age:number | cities name:word size:number",
                 "people id:number city:word age:number | cities name:word", "people id:number city:word age:number",
                 "people id:number city:word", "people id:number")
        for many in range(len(TEXT)):
            if TEXT[:many] in whole:
                self.same(schema_text(schema_in(TEXT[:many])), TEXT[:many])
            else:
                self.refused(NoSchema, {}, schema_in, TEXT[:many])
        for sign in range(32, 127):
            self.refused(NoSchema, {}, schema_in, TEXT + chr(sign))


if __name__ == "__main__":
    unittest.main()
