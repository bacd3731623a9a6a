"""Makes of tables [21] to [27], and [3], [4], [5] of them."""

import random
import unittest

from helper import Case, FIRST_ROWS, ODD_KEYS, ODD_THINGS, small_schema
from planstore.errors import NoMake, NoOrder, NoTable
from planstore.makes import Makes
from planstore.schema import Schema

TABLES = ("people", "cities")
COLUMNS = {"people": ("id", "city", "age"), "cities": ("name", "size")}
ORDERED = {"people": ("id", "city", "age"), "cities": ("name",)}
KEYS = {"people": (-2, 0, 1, 5, 7), "cities": ("bergen", "oslo", "rome")}
ROME = (7, "rome", 30)
MOVED = (7, "paris", 31)


def first_makes():
    return Makes(small_schema(), FIRST_ROWS)


def all_told(makes, numbers):
    """All that is told of these makes, but for what later makes change."""
    told = []
    for make in numbers:
        for table in TABLES:
            told.append(makes.rows_at(make, table))
            told.append([makes.row_at(make, table, key) for key in KEYS[table]])
            told.append([makes.order_at(make, table, column) for column in ORDERED[table]])
    return told


class FirstTest(Case):
    def test_nothing_told(self):
        for makes in (Makes(small_schema()), Makes(small_schema(), None), Makes(small_schema(), {})):
            self.same(makes.last_make(), 0)
            self.same(makes.versions(), 0)
            for table in TABLES:
                self.same(makes.rows_at(0, table), [])
                self.same(makes.order_at(0, table, COLUMNS[table][0]), [])

    def test_first_rows(self):
        makes = first_makes()
        self.same(makes.last_make(), 0)
        self.same(makes.rows_at(0, "people"), [(-2, "oslo", 30), (5, "oslo", 12), (7, "rome", 30)])
        self.same(makes.rows_at(0, "cities"), [("oslo", 3), ("rome", 9)])
        self.same(makes.versions(), 5)

    def test_a_table_that_is_left_out(self):
        makes = Makes(small_schema(), {"cities": [("rome", 9)]})
        self.same(makes.rows_at(0, "people"), [])
        self.same(makes.rows_at(0, "cities"), [("rome", 9)])
        makes = Makes(small_schema(), {"cities": [], "people": [ROME]})
        self.same(makes.rows_at(0, "cities"), [])
        self.same(makes.rows_at(0, "people"), [ROME])

    def test_the_schema_is_a_value(self):
        schema = small_schema()
        self.assertIs(Makes(schema).schema, schema)

    def test_many_rows_and_the_bounds_of_numbers(self):
        rows = [(number * 33333333, "a", -number) for number in range(-30, 30)]
        makes = Makes(small_schema(), {"people": rows[::-1]})
        self.same(makes.rows_at(0, "people"), rows)
        self.same(makes.order_at(0, "people", "age"), sorted([(row[2], row[0]) for row in rows]))
        makes.add_make([("people", 10 ** 9, (10 ** 9, "z", -10 ** 9)), ("people", -10 ** 9, (-10 ** 9, "z", 10 ** 9))])
        self.same(makes.rows_at(1, "people"), [(-10 ** 9, "z", 10 ** 9)] + rows + [(10 ** 9, "z", -10 ** 9)])
        self.same(makes.row_at(1, "people", 10 ** 9), (10 ** 9, "z", -10 ** 9))
        self.assertIsNone(makes.row_at(1, "people", 10 ** 9 + 1))


class AddedTest(Case):
    def test_put_anew_in_anothers_stead_and_cut(self):
        makes = first_makes()
        writes = [("people", 7, MOVED), ("people", 1, (1, "rome", 9)), ("people", 5, None), ("cities", "rome", None)]
        self.same(makes.add_make(writes), 1)
        self.same(makes.last_make(), 1)
        self.same(makes.rows_at(1, "people"), [(-2, "oslo", 30), (1, "rome", 9), MOVED])
        self.same(makes.rows_at(1, "cities"), [("oslo", 3)])
        self.same(makes.row_at(1, "people", 7), MOVED)
        self.assertIsNone(makes.row_at(1, "people", 5))
        self.same(makes.order_at(1, "people", "city"), [("oslo", -2), ("paris", 7), ("rome", 1)])

    def test_a_list_without_writes(self):
        makes = first_makes()
        self.same([makes.add_make([]), makes.add_make([]), makes.last_make()], [1, 2, 2])
        for make in (1, 2):
            for table in TABLES:
                self.same(makes.rows_at(make, table), makes.rows_at(0, table))
        self.same(makes.versions(), 5)

    def test_none_where_there_was_no_row(self):
        makes = first_makes()
        self.same(makes.add_make([("people", 1, None), ("cities", "bergen", None)]), 1)
        self.same(makes.rows_at(1, "people"), makes.rows_at(0, "people"))
        self.same(makes.versions(), 5)
        self.assertIsNone(makes.row_at(1, "people", 1))
        makes.add_make([("people", 1, (1, "rome", 2))])
        self.assertIsNone(makes.row_at(1, "people", 1))
        self.same(makes.row_at(2, "people", 1), (1, "rome", 2))

    def test_cut_twice_and_put_again(self):
        makes = first_makes()
        for row in (None, None, ROME, None):
            makes.add_make([("people", 7, row)])
        told = [makes.row_at(make, "people", 7) for make in range(5)]
        self.same(told, [ROME, None, None, ROME, None])
        self.same(makes.versions(), 6)

    def test_earlier_makes_are_told_as_ever(self):
        makes = first_makes()
        makes.add_make([("people", 7, MOVED), ("cities", "oslo", None)])
        before = all_told(makes, (0, 1))
        makes.add_make([("people", 7, None), ("cities", "oslo", ("oslo", 4)), ("people", 0, (0, "a", 0))])
        makes.add_make([("people", 7, ROME), ("people", -2, None), ("cities", "rome", None)])
        self.same(all_told(makes, (0, 1)), before)
        self.same(all_told(makes, (0, 1)), before)

    def test_tables_are_apart(self):
        schema = Schema([("a", [("id", "number")]), ("b", [("id", "number")])])
        makes = Makes(schema, {"a": [(1,)], "b": [(1,)]})
        makes.add_make([("a", 1, None), ("b", 2, (2,))])
        self.same((makes.rows_at(1, "a"), makes.rows_at(1, "b")), ([], [(1,), (2,)]))
        self.same((makes.since_make(0, "a", 1), makes.since_make(0, "b", 1)), (1, None))

    def test_two_makes_are_apart(self):
        schema = small_schema()
        one = Makes(schema, FIRST_ROWS)
        other = Makes(schema, FIRST_ROWS)
        one.add_make([("people", 7, None)])
        self.same(other.last_make(), 0)
        self.same(other.row_at(0, "people", 7), ROME)
        self.refused(NoMake, {"number": 1}, other.rows_at, 1, "people")


class ReadTest(Case):
    def test_row_of_a_key(self):
        makes = first_makes()
        self.same(makes.row_at(0, "people", -2), (-2, "oslo", 30))
        self.same(makes.row_at(0, "cities", "rome"), ("rome", 9))
        for key in (1, 6, -7, 10 ** 9):
            self.assertIsNone(makes.row_at(0, "people", key))
        self.assertIsNone(makes.row_at(0, "cities", "bergen"))

    def test_what_is_no_value_of_the_keys_kind(self):
        makes = Makes(small_schema(), {"people": [(0, "rome", 1), (1, "rome", 1)], "cities": [("rome", 9)]})
        makes.add_make([("people", 0, (0, "oslo", 1)), ("people", 1, None)])
        for make in (0, 1):
            for key in (True, False, 1.0, 0.0, None, "1", "", "rome", b"1", (1,), (), frozenset(), 10 ** 9 + 1):
                self.assertIsNone(makes.row_at(make, "people", key))
                self.assertIsNone(makes.since_make(make, "people", key))
            for key in (0, True, None, "Rome", "rome ", ("rome",), b"rome"):
                self.assertIsNone(makes.row_at(make, "cities", key))
                self.assertIsNone(makes.since_make(make, "cities", key))

    def test_orders(self):
        makes = first_makes()
        self.same(makes.order_at(0, "people", "id"), [(-2, -2), (5, 5), (7, 7)])
        self.same(makes.order_at(0, "people", "city"), [("oslo", -2), ("oslo", 5), ("rome", 7)])
        self.same(makes.order_at(0, "people", "age"), [(12, 5), (30, -2), (30, 7)])
        self.same(makes.order_at(0, "cities", "name"), [("oslo", "oslo"), ("rome", "rome")])

    def test_orders_behind_writes(self):
        makes = first_makes()
        makes.add_make([("people", 5, (5, "rome", 30)), ("people", 7, None), ("people", 8, (8, "bergen", 1))])
        self.same(makes.order_at(1, "people", "city"), [("bergen", 8), ("oslo", -2), ("rome", 5)])
        self.same(makes.order_at(1, "people", "age"), [(1, 8), (30, -2), (30, 5)])
        self.same(makes.order_at(0, "people", "city"), [("oslo", -2), ("oslo", 5), ("rome", 7)])


class SinceTest(Case):
    def test_since(self):
        makes = first_makes()
        self.assertIsNone(makes.since_make(0, "people", 7))
        makes.add_make([("people", 7, MOVED)])
        makes.add_make([("people", 5, None)])
        makes.add_make([("people", 7, MOVED), ("people", 1, None)])
        self.same([makes.since_make(make, "people", 7) for make in range(4)], [3, 3, 3, None])
        self.same([makes.since_make(make, "people", 5) for make in range(4)], [2, 2, None, None])
        self.same([makes.since_make(make, "people", 1) for make in range(4)], [3, 3, 3, None])
        self.same([makes.since_make(make, "people", -2) for make in range(4)], [None] * 4)
        self.same([makes.since_make(make, "people", 99) for make in range(4)], [None] * 4)
        self.same([makes.since_make(make, "cities", "rome") for make in range(4)], [None] * 4)

    def test_the_same_row_again_counts(self):
        makes = first_makes()
        makes.add_make([("people", 7, ROME)])
        self.same(makes.since_make(0, "people", 7), 1)

    def test_sweeping_changes_nothing(self):
        makes = first_makes()
        makes.add_make([("people", 7, MOVED)])
        makes.add_make([("people", 7, None), ("people", 1, None)])
        makes.add_make([])
        makes.sweep([0])
        self.same(makes.since_make(0, "people", 7), 2)
        self.same(makes.since_make(0, "people", 1), 2)
        self.assertIsNone(makes.since_make(3, "people", 7))
        makes.sweep([])
        self.same(makes.add_make([("people", 7, ROME)]), 4)
        self.same(makes.since_make(3, "people", 7), 4)
        self.assertIsNone(makes.since_make(3, "people", 1))


class SweepTest(Case):
    def setUp(self):
        self.makes = first_makes()
        for row in (MOVED, None, ROME, MOVED):
            self.makes.add_make([("people", 7, row)])

    def told(self):
        makes = []
        for make in range(self.makes.last_make() + 2):
            try:
                self.makes.rows_at(make, "people")
                makes.append(make)
            except NoMake:
                pass
        return makes

    def test_without_any(self):
        self.assertIsNone(self.makes.sweep([]))
        self.assertEqual(self.told(), [4])
        self.same(self.makes.last_make(), 4)
        self.same(self.makes.row_at(4, "people", 7), MOVED)
        self.same(self.makes.versions(), 5)

    def test_some_and_one_twice(self):
        self.makes.sweep([3, 1, 3])
        self.assertEqual(self.told(), [1, 3, 4])
        self.same([self.makes.row_at(make, "people", 7) for make in (1, 3, 4)], [MOVED, ROME, MOVED])

    def test_the_last_one_may_be_named(self):
        self.makes.sweep([4, 0, 4])
        self.assertEqual(self.told(), [0, 4])

    def test_all_that_are_added_behind_are_told(self):
        self.makes.sweep([0])
        self.same(self.makes.add_make([("people", 7, None)]), 5)
        self.same(self.makes.add_make([]), 6)
        self.assertEqual(self.told(), [0, 4, 5, 6])
        self.makes.sweep([5])
        self.assertEqual(self.told(), [5, 6])
        self.assertIsNone(self.makes.row_at(5, "people", 7))

    def test_of_others_no_more_is_told(self):
        self.makes.sweep([1])
        for make in (0, 2, 3):
            values = {"number": make}
            self.refused(NoMake, values, self.makes.row_at, make, "people", 7)
            self.refused(NoMake, values, self.makes.rows_at, make, "people")
            self.refused(NoMake, values, self.makes.order_at, make, "people", "id")
            self.refused(NoMake, values, self.makes.since_make, make, "people", 7)
            self.refused(NoMake, values, self.makes.sweep, [make])

    def test_a_make_between_two_that_are_told_reads_nothing_new(self):
        self.makes.sweep([2])
        self.assertIsNone(self.makes.row_at(2, "people", 7))
        self.same(self.makes.rows_at(2, "people"), [(-2, "oslo", 30), (5, "oslo", 12)])

    def test_refused_with_the_first_that_is_none(self):
        before = all_told(self.makes, range(5))
        for used, number in (([9], 9), ([1, 9, 8], 9), ([-1], -1), ([5], 5), ([0, True], True), ([False], False),
                             ([1.0], 1.0), ([None, 9], None), (["0"], "0"), ([2, []], []), ([{}], {}),
                             ([10 ** 39], 10 ** 39)):
            self.refused(NoMake, {"number": number}, self.makes.sweep, used)
            self.assertEqual(self.told(), [0, 1, 2, 3, 4])
            self.same(self.makes.versions(), 8)
        self.same(all_told(self.makes, range(5)), before)

    def test_the_list_is_not_kept_and_not_changed(self):
        used = [1, 3, 1]
        self.makes.sweep(used)
        self.assertEqual(used, [1, 3, 1])
        used.append(0)
        used[0] = 2
        self.assertEqual(self.told(), [1, 3, 4])


class VersionsTest(Case):
    def test_each_write_of_a_row_begins_a_stretch(self):
        makes = first_makes()
        makes.add_make([("people", 7, ROME)])
        self.same(makes.versions(), 6)
        makes.add_make([("people", 7, ROME), ("cities", "rome", ("rome", 10))])
        self.same(makes.versions(), 8)
        makes.add_make([("people", 7, None), ("people", 1, None)])
        self.same(makes.versions(), 8)

    def test_swept_away_where_no_told_make_lies(self):
        makes = first_makes()
        makes.add_make([("people", 7, MOVED)])
        makes.add_make([])
        makes.add_make([("people", 7, ROME)])
        makes.add_make([("people", 7, None)])
        makes.add_make([])
        self.same(makes.versions(), 7)
        makes.sweep([2, 0])
        self.same(makes.versions(), 6)
        makes.sweep([2])
        self.same(makes.versions(), 5)
        self.same(makes.row_at(2, "people", 7), MOVED)
        makes.sweep([])
        self.same(makes.versions(), 4)

    def test_the_make_that_ends_a_stretch_is_left_out(self):
        makes = first_makes()
        makes.add_make([("people", 7, MOVED)])
        makes.sweep([1])
        self.same(makes.versions(), 5)

    def test_a_stretch_is_kept_until_a_sweeping(self):
        makes = first_makes()
        makes.add_make([])
        makes.sweep([])
        makes.add_make([("people", 7, None), ("people", 5, None)])
        self.same(makes.versions(), 5)
        makes.sweep([1])
        self.same(makes.versions(), 5)
        makes.sweep([])
        self.same(makes.versions(), 3)

    def test_no_row_is_left(self):
        makes = Makes(small_schema(), {"people": [ROME]})
        makes.add_make([("people", 7, None)])
        makes.sweep([])
        self.same(makes.versions(), 0)
        self.same(makes.rows_at(1, "people"), [])
        makes.add_make([("people", 7, MOVED)])
        self.same((makes.versions(), makes.rows_at(1, "people"), makes.rows_at(2, "people")), (1, [], [MOVED]))


class RefusedTest(Case):
    def setUp(self):
        self.makes = first_makes()
        self.makes.add_make([])

    def asks(self):
        makes = self.makes
        return (lambda make, table: makes.row_at(make, table, 7),
                lambda make, table: makes.row_at(make, table, None),
                makes.rows_at,
                lambda make, table: makes.order_at(make, table, "id"),
                lambda make, table: makes.order_at(make, table, None),
                lambda make, table: makes.since_make(make, table, 7),
                lambda make, table: makes.since_make(make, table, None))

    def test_no_make(self):
        no_makes = [thing for thing in ODD_THINGS if thing != 0 or type(thing) is not int]
        for thing in no_makes + [2, -1, "0", [0], True, False, 0.0, 1.0]:
            for ask in self.asks():
                self.refused(NoMake, {"number": thing}, ask, thing, "people")
                self.refused(NoMake, {"number": thing}, ask, thing, None)

    def test_no_table(self):
        for thing in ODD_THINGS + ["id", "city"]:
            for ask in self.asks():
                self.refused(NoTable, {"table": thing}, ask, 0, thing)

    def test_no_order(self):
        for thing in ODD_THINGS + ["name", "size", "people"]:
            self.refused(NoOrder, {"table": "people", "column": thing}, self.makes.order_at, 1, "people", thing)
        for thing in ODD_THINGS + ["size", "city", "id"]:
            self.refused(NoOrder, {"table": "cities", "column": thing}, self.makes.order_at, 0, "cities", thing)

    def test_what_is_refused_changes_nothing(self):
        before = all_told(self.makes, (0, 1))
        for ask in self.asks():
            for make, table in ((2, "people"), (0, "nosuch"), (None, None)):
                self.assertRaises(ValueError, ask, make, table)
        self.assertRaises(NoOrder, self.makes.order_at, 0, "people", [])
        self.same(all_told(self.makes, (0, 1)), before)
        self.same((self.makes.last_make(), self.makes.versions()), (1, 5))

    def test_keys_of_other_kinds_are_no_refusal(self):
        for key in ODD_KEYS:
            if type(key) is not int:
                self.assertIsNone(self.makes.row_at(0, "people", key))
                self.assertIsNone(self.makes.since_make(0, "people", key))


class OwnTest(Case):
    def test_first_rows_may_be_changed(self):
        rows = {"people": [ROME, (5, "oslo", 12)], "cities": []}
        makes = Makes(small_schema(), rows)
        self.assertEqual(rows, {"people": [ROME, (5, "oslo", 12)], "cities": []})
        rows["people"].append((1, "x", 1))
        rows["people"][0] = MOVED
        rows["cities"] = [("rome", 1)]
        self.same(makes.rows_at(0, "people"), [(5, "oslo", 12), ROME])
        self.same(makes.rows_at(0, "cities"), [])
        self.same(makes.versions(), 2)

    def test_writes_may_be_changed(self):
        makes = first_makes()
        writes = [("people", 7, MOVED), ("people", 1, None)]
        makes.add_make(writes)
        self.assertEqual(writes, [("people", 7, MOVED), ("people", 1, None)])
        writes[0] = ("people", 7, None)
        writes.append(("cities", "rome", None))
        self.same(makes.row_at(1, "people", 7), MOVED)
        self.same(makes.row_at(1, "cities", "rome"), ("rome", 9))

    def test_what_is_told_may_be_changed(self):
        makes = first_makes()
        before = all_told(makes, (0,))
        makes.rows_at(0, "people").clear()
        makes.rows_at(0, "cities").append(("x", 1))
        makes.order_at(0, "people", "city").clear()
        makes.order_at(0, "people", "id").append((1, 1))
        self.same(all_told(makes, (0,)), before)


class Model:
    """All makes written out, and all writes, from which what is told is counted anew."""

    def __init__(self, rows):
        self.tables = [{(table, row[0]): row for table in rows for row in rows[table]}]
        self.wrote = [dict(self.tables[0])]
        self.told = [0]
        self.gone = set()

    def add(self, writes):
        tables = dict(self.tables[-1])
        for table, key, row in writes:
            tables[(table, key)] = row
        self.tables.append({place: row for place, row in tables.items() if row is not None})
        self.wrote.append({(table, key): row for table, key, row in writes})
        self.told.append(len(self.tables) - 1)

    def stretches(self):
        for make, wrote in enumerate(self.wrote):
            for place, row in wrote.items():
                behind = [later for later in range(make + 1, len(self.wrote)) if place in self.wrote[later]]
                if row is not None:
                    yield make, place, range(make, min(behind, default=len(self.wrote)))

    def sweep(self, used):
        self.told = sorted(set(used) | {len(self.tables) - 1})
        for make, place, makes in self.stretches():
            if not any(told in makes for told in self.told):
                self.gone.add((make, place))

    def versions(self):
        return len([make for make, place, makes in self.stretches() if (make, place) not in self.gone])

    def rows(self, make, table):
        return sorted(row for place, row in self.tables[make].items() if place[0] == table)

    def since(self, make, table, key):
        behind = [later for later in range(make + 1, len(self.wrote)) if (table, key) in self.wrote[later]]
        return max(behind, default=None)


class WovenTest(Case):
    def agree(self, makes, model):
        self.assertEqual((makes.last_make(), makes.versions()), (len(model.tables) - 1, model.versions()))
        for make in range(len(model.tables)):
            if make not in model.told:
                self.refused(NoMake, {"number": make}, makes.rows_at, make, "people")
                continue
            for table in TABLES:
                rows = model.rows(make, table)
                self.same(makes.rows_at(make, table), rows)
                for key in KEYS[table]:
                    self.same(makes.row_at(make, table, key), model.tables[make].get((table, key)))
                    self.same(makes.since_make(make, table, key), model.since(make, table, key))
                for column in ORDERED[table]:
                    place = COLUMNS[table].index(column)
                    self.same(makes.order_at(make, table, column), sorted((row[place], row[0]) for row in rows))

    def some_writes(self, chance):
        writes = []
        for table in TABLES:
            for key in KEYS[table]:
                if chance.random() < 0.3:
                    row = (key, chance.choice(["a", "b"]), chance.randrange(3)) if table == "people" else (key, 1)
                    writes.append((table, key, None if chance.random() < 0.4 else row))
        chance.shuffle(writes)
        return writes

    def test_weaves_of_makes_and_sweepings(self):
        for seed in range(25):
            chance = random.Random(seed)
            makes = first_makes()
            model = Model(FIRST_ROWS)
            for deed in range(14):
                if chance.random() < 0.7:
                    writes = self.some_writes(chance)
                    model.add(writes)
                    self.same(makes.add_make(writes), len(model.tables) - 1)
                else:
                    used = [make for make in model.told if chance.random() < 0.5]
                    makes.sweep(used)
                    model.sweep(used)
                self.agree(makes, model)


if __name__ == "__main__":
    unittest.main()
