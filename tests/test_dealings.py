"""Dealings [32] to [36], the promise of the store [6], and [3], [4], [5] of them."""

import random
import unittest

from helper import Case, FIRST_ROWS, ODD_KEYS, ODD_THINGS, small_schema
from planstore.dealings import Dealing, Dealings
from planstore.errors import BadRow, Beaten, NoMake, NoOrder, NoRow, NoTable, Over, StoreError, TooMany
from planstore.makes import Makes
from planstore.readers import Reader

ROME = (7, "rome", 30)
MOVED = (7, "paris", 31)
NEW = (1, "bergen", 9)
COLUMNS = {"people": ("id", "city", "age"), "cities": ("name", "size")}
ORDERED = {"people": ("id", "city", "age"), "cities": ("name",)}
KEYS = {"people": (-2, 1, 5, 7), "cities": ("oslo", "rome")}


class DealingsCase(Case):
    def setUp(self):
        self.makes = Makes(small_schema(), FIRST_ROWS)
        self.dealings = Dealings(self.makes)

    def kept(self, *writes):
        """A dealing that was begun now, wrote this and was kept: (table, row) puts, (table, key, None) cuts."""
        dealing = self.dealings.begin()
        for write in writes:
            if len(write) == 2:
                dealing.put(*write)
            else:
                dealing.cut(*write[:2])
        self.dealings.keep_it(dealing)
        return dealing

    def all_read(self, reader):
        return [[reader.rows_of(table), [reader.row_of(table, key) for key in KEYS[table]],
                 [reader.order_of(table, column) for column in ORDERED[table]]] for table in KEYS]

    def tables_now(self):
        return [self.makes.rows_at(self.makes.last_make(), table) for table in KEYS]


class ReadingTest(DealingsCase):
    def test_stands_under_reader(self):
        self.assertTrue(issubclass(Dealing, Reader))
        self.assertIsInstance(self.dealings.begin(), Dealing)

    def test_reads_the_make_of_its_begin(self):
        dealing = self.dealings.begin()
        self.same(dealing.rows_of("people"), [(-2, "oslo", 30), (5, "oslo", 12), ROME])
        self.same(dealing.rows_of("cities"), [("oslo", 3), ("rome", 9)])
        self.same(dealing.row_of("people", 7), ROME)
        self.assertIsNone(dealing.row_of("people", 1))
        self.same(dealing.order_of("people", "city"), [("oslo", -2), ("oslo", 5), ("rome", 7)])
        before = self.all_read(dealing)
        self.kept(("people", MOVED), ("people", NEW), ("cities", "oslo", None))
        self.same(self.all_read(dealing), before)
        self.same(self.dealings.begin().rows_of("people"), [(-2, "oslo", 30), NEW, (5, "oslo", 12), MOVED])

    def test_begins_at_the_last_make_also_where_makes_were_there(self):
        self.makes.add_make([("people", 7, MOVED)])
        dealing = Dealings(self.makes).begin()
        self.same(dealing.fate(), ("open", 1))
        self.same(dealing.row_of("people", 7), MOVED)

    def test_reads_its_own_writes(self):
        dealing = self.dealings.begin()
        self.assertIsNone(dealing.put("people", MOVED))
        self.assertIsNone(dealing.put("people", NEW))
        self.assertIsNone(dealing.cut("people", 5))
        self.same(dealing.row_of("people", 7), MOVED)
        self.same(dealing.row_of("people", 1), NEW)
        self.assertIsNone(dealing.row_of("people", 5))
        self.same(dealing.rows_of("people"), [(-2, "oslo", 30), NEW, MOVED])
        self.same(dealing.order_of("people", "id"), [(-2, -2), (1, 1), (7, 7)])
        self.same(dealing.order_of("people", "city"), [("bergen", 1), ("oslo", -2), ("paris", 7)])
        self.same(dealing.order_of("people", "age"), [(9, 1), (30, -2), (31, 7)])
        self.same(dealing.rows_of("cities"), [("oslo", 3), ("rome", 9)])

    def test_the_last_write_of_a_key_counts(self):
        dealing = self.dealings.begin()
        dealing.put("people", MOVED)
        dealing.cut("people", 7)
        self.assertIsNone(dealing.row_of("people", 7))
        dealing.put("people", (7, "a", 1))
        dealing.put("people", (7, "b", 2))
        self.same(dealing.row_of("people", 7), (7, "b", 2))
        self.same(dealing.written(), [("people", 7, (7, "b", 2))])

    def test_writes_of_open_dealings_are_not_seen_by_others(self):
        one = self.dealings.begin()
        other = self.dealings.begin()
        before = self.all_read(other)
        one.put("people", MOVED)
        one.cut("cities", "rome")
        self.same(self.all_read(other), before)
        self.same(self.all_read(self.dealings.begin()), before)
        self.same(self.makes.last_make(), 0)
        other.put("people", (7, "b", 2))
        self.same((one.row_of("people", 7), other.row_of("people", 7)), (MOVED, (7, "b", 2)))

    def test_what_is_no_value_of_the_keys_kind(self):
        dealing = self.dealings.begin()
        dealing.put("people", NEW)
        dealing.put("people", (0, "a", 0))
        for key in (True, False, 1.0, None, "1", "", (1,), frozenset(), 10 ** 9 + 1):
            self.assertIsNone(dealing.row_of("people", key))
            self.refused(NoRow, {"table": "people", "key": key}, dealing.cut, "people", key)
        self.same(dealing.row_of("people", 1), NEW)

    def test_the_bounds_of_numbers(self):
        dealing = self.dealings.begin()
        dealing.put("people", (10 ** 9, "z", -10 ** 9))
        dealing.put("people", (-10 ** 9, "abcdefgh", 10 ** 9))
        self.same(dealing.rows_of("people")[0], (-10 ** 9, "abcdefgh", 10 ** 9))
        self.same(dealing.rows_of("people")[-1], (10 ** 9, "z", -10 ** 9))
        self.refused(BadRow, {"table": "people"}, dealing.put, "people", (10 ** 9 + 1, "z", 1))

    def test_what_is_told_is_the_askers_own(self):
        dealing = self.dealings.begin()
        dealing.put("people", MOVED)
        before = self.all_read(dealing)
        dealing.rows_of("people").clear()
        dealing.order_of("people", "city").clear()
        dealing.written().append(("people", 1, None))
        self.dealings.open_list().clear()
        self.same(self.all_read(dealing), before)
        self.same(dealing.written(), [("people", 7, MOVED)])
        self.same(self.dealings.open_list(), [1])


class WrittenTest(DealingsCase):
    def test_by_table_then_by_key(self):
        dealing = self.dealings.begin()
        self.same(dealing.written(), [])
        dealing.put("people", MOVED)
        dealing.put("people", (-9, "a", 1))
        dealing.put("people", (10, "a", 1))
        dealing.cut("people", 5)
        dealing.cut("cities", "rome")
        dealing.put("cities", ("bergen", 1))
        self.same(dealing.written(), [
            ("cities", "bergen", ("bergen", 1)), ("cities", "rome", None), ("people", -9, (-9, "a", 1)),
            ("people", 5, None), ("people", 7, MOVED), ("people", 10, (10, "a", 1))])

    def test_a_row_like_the_one_that_was_there(self):
        dealing = self.dealings.begin()
        dealing.put("people", ROME)
        self.same(dealing.written(), [("people", 7, ROME)])

    def test_a_row_put_and_cut_by_the_same_dealing(self):
        dealing = self.dealings.begin()
        dealing.put("people", NEW)
        dealing.cut("people", 1)
        self.same(dealing.written(), [("people", 1, None)])
        self.refused(NoRow, {"table": "people", "key": 1}, dealing.cut, "people", 1)
        self.dealings.keep_it(dealing)
        self.same(dealing.fate(), ("kept", 0, 1))
        self.same(self.makes.since_make(0, "people", 1), 1)

    def test_a_row_cut_and_put_back(self):
        dealing = self.dealings.begin()
        dealing.cut("people", 7)
        dealing.put("people", ROME)
        self.same(dealing.written(), [("people", 7, ROME)])

    def test_told_as_ever_when_it_has_ended(self):
        for end in (self.dealings.keep_it, self.dealings.broken):
            dealing = self.dealings.begin()
            dealing.put("people", MOVED)
            dealing.cut("cities", "rome")
            written = dealing.written()
            end(dealing)
            self.same(dealing.written(), written)
            self.dealings.swept()
            self.same(dealing.written(), written)
            self.kept(("cities", ("rome", 9)))


class RefusedTest(DealingsCase):
    def test_no_table(self):
        dealing = self.dealings.begin()
        for thing in ODD_KEYS + ["id"]:
            values = {"table": thing}
            self.refused(NoTable, values, dealing.put, thing, ROME)
            self.refused(NoTable, values, dealing.put, thing, None)
            self.refused(NoTable, values, dealing.cut, thing, 7)
            self.refused(NoTable, values, dealing.cut, thing, None)
            self.refused(NoTable, values, dealing.row_of, thing, 7)
            self.refused(NoTable, values, dealing.rows_of, thing)
            self.refused(NoTable, values, dealing.order_of, thing, "id")
            self.refused(NoTable, values, dealing.order_of, thing, None)

    def test_no_order(self):
        dealing = self.dealings.begin()
        for thing in ODD_KEYS + ["name", "size"]:
            self.refused(NoOrder, {"table": "people", "column": thing}, dealing.order_of, "people", thing)
        self.refused(NoOrder, {"table": "cities", "column": "size"}, dealing.order_of, "cities", "size")

    def test_bad_row(self):
        dealing = self.dealings.begin()
        for row in ODD_THINGS + [list(ROME), ROME[:2], ROME + (1,), (7, 30, "rome"), (True, "rome", 30),
                                 (7, "Rome", 30), (7, "rome", None), (7, "rome", 30.0), (7, ["rome"], 30), ("rome", 9)]:
            self.refused(BadRow, {"table": "people"}, dealing.put, "people", row)
        self.refused(BadRow, {"table": "cities"}, dealing.put, "cities", ROME)
        self.same(dealing.written(), [])

    def test_no_row(self):
        dealing = self.dealings.begin()
        for key in [key for key in ODD_KEYS if key != 7] + [1, 6]:
            self.refused(NoRow, {"table": "people", "key": key}, dealing.cut, "people", key)
        self.refused(NoRow, {"table": "cities", "key": "bergen"}, dealing.cut, "cities", "bergen")
        dealing.cut("people", 7)
        self.refused(NoRow, {"table": "people", "key": 7}, dealing.cut, "people", 7)
        self.kept(("people", NEW))
        self.refused(NoRow, {"table": "people", "key": 1}, dealing.cut, "people", 1)
        self.same(dealing.written(), [("people", 7, None)])

    def test_what_is_refused_changes_nothing(self):
        dealing = self.dealings.begin()
        dealing.put("people", MOVED)
        before = (self.all_read(dealing), dealing.written(), dealing.fate(), self.dealings.open_list())
        for call, args in ((dealing.put, ("nosuch", ROME)), (dealing.put, ("people", [])), (dealing.cut, ("people", 1)),
                           (dealing.cut, ("nosuch", 7)), (dealing.order_of, ("people", "x")),
                           (dealing.row_of, ("x", 1)), (dealing.rows_of, ("x",))):
            self.assertRaises(StoreError, call, *args)
        self.same((self.all_read(dealing), dealing.written(), dealing.fate(), self.dealings.open_list()), before)

    def test_over_ahead_of_all_else(self):
        self.dealings.begin()
        kept = self.kept(("people", MOVED))
        idle = self.kept()
        broken = self.dealings.begin()
        broken.put("people", NEW)
        self.dealings.broken(broken)
        beaten = self.dealings.begin()
        beaten.put("people", MOVED)
        self.kept(("people", MOVED))
        self.assertRaises(Beaten, self.dealings.may_keep, beaten)
        before = (self.makes.last_make(), self.dealings.open_list(), self.tables_now())
        for dealing in (kept, idle, broken, beaten):
            told = (dealing.fate(), dealing.written())
            values = {"number": dealing.number}
            for table in ("people", "nosuch", None):
                self.refused(Over, values, dealing.row_of, table, 7)
                self.refused(Over, values, dealing.rows_of, table)
                self.refused(Over, values, dealing.order_of, table, "id")
                self.refused(Over, values, dealing.order_of, table, None)
                self.refused(Over, values, dealing.put, table, ROME)
                self.refused(Over, values, dealing.put, table, None)
                self.refused(Over, values, dealing.cut, table, 7)
                self.refused(Over, values, dealing.cut, table, None)
            for call in (self.dealings.may_keep, self.dealings.settled, self.dealings.keep_it, self.dealings.broken):
                self.refused(Over, values, call, dealing)
            self.same((dealing.fate(), dealing.written()), told)
        self.same((self.makes.last_make(), self.dealings.open_list(), self.tables_now()), before)


class FateTest(DealingsCase):
    def test_numbers_and_open_ones(self):
        self.same(self.dealings.open_list(), [])
        dealings = [self.dealings.begin() for place in range(4)]
        self.same([dealing.number for dealing in dealings], [1, 2, 3, 4])
        self.same(self.dealings.open_list(), [1, 2, 3, 4])
        self.dealings.broken(dealings[1])
        self.dealings.keep_it(dealings[0])
        self.same(self.dealings.open_list(), [3, 4])
        self.same(self.dealings.begin().number, 5)
        self.same(self.dealings.open_list(), [3, 4, 5])
        self.same(dealings[1].number, 2)

    def test_two_dealings_of_makes_number_apart(self):
        self.dealings.begin()
        other = Dealings(Makes(small_schema()))
        self.same((other.open_list(), other.begin().number), ([], 1))

    def test_fates(self):
        self.kept(("people", NEW))
        dealing = self.dealings.begin()
        self.same(dealing.fate(), ("open", 1))
        dealing.put("people", MOVED)
        self.kept(("cities", ("rome", 1)))
        self.same(dealing.fate(), ("open", 1))
        self.assertIsNone(self.dealings.keep_it(dealing))
        self.same(dealing.fate(), ("kept", 1, 3))
        idle = self.dealings.begin()
        self.dealings.keep_it(idle)
        self.same(idle.fate(), ("kept", 3, None))
        broken = self.dealings.begin()
        broken.put("people", ROME)
        self.assertIsNone(self.dealings.broken(broken))
        self.same(broken.fate(), ("broken", 3))
        self.kept(("people", ROME))
        self.dealings.swept()
        self.same((dealing.fate(), idle.fate(), broken.fate()), (("kept", 1, 3), ("kept", 3, None), ("broken", 3)))

    def test_twelve_at_once(self):
        dealings = [self.dealings.begin() for place in range(12)]
        for again in range(2):
            self.refused(TooMany, {}, self.dealings.begin)
            self.same(self.dealings.open_list(), list(range(1, 13)))
        self.dealings.broken(dealings[3])
        self.same(self.dealings.begin().number, 13)
        self.refused(TooMany, {}, self.dealings.begin)
        self.dealings.keep_it(dealings[0])
        self.same(self.dealings.begin().number, 14)
        self.refused(TooMany, {}, self.dealings.begin)

    def test_a_beaten_one_makes_room(self):
        dealings = [self.dealings.begin() for place in range(12)]
        dealings[0].put("people", MOVED)
        dealings[1].put("people", MOVED)
        self.dealings.keep_it(dealings[0])
        self.assertRaises(Beaten, self.dealings.keep_it, dealings[1])
        self.same([self.dealings.begin().number, self.dealings.begin().number], [13, 14])
        self.refused(TooMany, {}, self.dealings.begin)

    def test_four_hundred_in_all(self):
        for number in range(1, 401):
            dealing = self.dealings.begin()
            self.same(dealing.number, number)
            if number % 2:
                self.dealings.broken(dealing)
            else:
                self.dealings.keep_it(dealing)
        for again in range(2):
            self.refused(TooMany, {}, self.dealings.begin)
            self.same(self.dealings.open_list(), [])

    def test_four_hundred_with_one_open(self):
        first = self.dealings.begin()
        for number in range(2, 401):
            self.dealings.broken(self.dealings.begin())
        self.refused(TooMany, {}, self.dealings.begin)
        first.put("people", MOVED)
        self.dealings.keep_it(first)
        self.same(first.fate(), ("kept", 0, 1))
        self.refused(TooMany, {}, self.dealings.begin)


class KeepTest(DealingsCase):
    def test_writes_become_the_next_make(self):
        dealing = self.dealings.begin()
        dealing.put("people", MOVED)
        dealing.cut("cities", "rome")
        self.assertIsNone(self.dealings.may_keep(dealing))
        self.same((dealing.fate(), self.makes.last_make(), self.dealings.open_list()), (("open", 0), 0, [1]))
        self.assertIsNone(self.dealings.settled(dealing))
        self.same((dealing.fate(), self.makes.last_make(), self.dealings.open_list()), (("kept", 0, 1), 1, []))
        self.same(self.makes.rows_at(1, "people"), [(-2, "oslo", 30), (5, "oslo", 12), MOVED])
        self.same(self.makes.rows_at(1, "cities"), [("oslo", 3)])
        self.same(self.makes.row_at(0, "people", 7), ROME)

    def test_nothing_written_makes_no_make(self):
        dealing = self.dealings.begin()
        self.kept(("people", MOVED))
        self.assertIsNone(self.dealings.may_keep(dealing))
        self.dealings.settled(dealing)
        self.same((dealing.fate(), self.makes.last_make()), (("kept", 0, None), 1))

    def test_broken_writes_become_nothing(self):
        dealing = self.dealings.begin()
        dealing.put("people", MOVED)
        self.dealings.broken(dealing)
        self.same((self.makes.last_make(), self.makes.row_at(0, "people", 7)), (0, ROME))
        other = self.dealings.begin()
        self.same(other.row_of("people", 7), ROME)
        other.put("people", MOVED)
        self.dealings.keep_it(other)
        self.same(other.fate(), ("kept", 0, 1))

    def test_unlike_rows_are_kept_both(self):
        one = self.dealings.begin()
        other = self.dealings.begin()
        one.put("people", MOVED)
        other.put("people", NEW)
        other.cut("cities", "rome")
        self.dealings.keep_it(other)
        self.dealings.keep_it(one)
        self.same((other.fate(), one.fate()), (("kept", 0, 1), ("kept", 0, 2)))
        self.same(self.tables_now(), [[(-2, "oslo", 30), NEW, (5, "oslo", 12), MOVED], [("oslo", 3)]])

    def test_a_key_of_another_table_is_another_row(self):
        one = self.dealings.begin()
        other = self.dealings.begin()
        one.put("cities", ("rome", 1))
        other.put("people", (9, "rome", 1))
        self.dealings.keep_it(one)
        self.assertIsNone(self.dealings.may_keep(other))

    def test_reading_what_another_wrote_is_no_ground(self):
        one = self.dealings.begin()
        other = self.dealings.begin()
        one.put("people", MOVED)
        self.dealings.keep_it(one)
        other.put("cities", ("rome", other.row_of("people", 7)[2]))
        self.dealings.keep_it(other)
        self.same(self.tables_now()[1], [("oslo", 3), ("rome", 30)])

    def test_kept_ahead_of_its_begin_is_no_ground(self):
        self.kept(("people", MOVED))
        dealing = self.dealings.begin()
        dealing.put("people", ROME)
        self.assertIsNone(self.dealings.may_keep(dealing))

    def test_kept_without_writes_or_broken_off_is_no_ground(self):
        dealing = self.dealings.begin()
        dealing.put("people", MOVED)
        self.kept()
        other = self.dealings.begin()
        other.put("people", NEW)
        other.put("people", (7, "b", 1))
        self.dealings.broken(other)
        self.assertIsNone(self.dealings.may_keep(dealing))


class BeatenTest(DealingsCase):
    def beaten(self, dealing, table, key, by, call=None):
        told = (self.makes.last_make(), self.tables_now(), dealing.written())
        values = {"table": table, "key": key, "by": by}
        self.refused(Beaten, values, call or self.dealings.keep_it, dealing)
        self.same(dealing.fate(), ("broken", dealing.fate()[1]))
        self.assertNotIn(dealing.number, self.dealings.open_list())
        self.same((self.makes.last_make(), self.tables_now(), dealing.written()), told)
        self.refused(Over, {"number": dealing.number}, self.dealings.keep_it, dealing)

    def test_by_may_keep_and_by_keep_it(self):
        for call in (self.dealings.may_keep, self.dealings.keep_it):
            dealing = self.dealings.begin()
            dealing.put("people", NEW)
            by = self.kept(("people", (1, "a", 1)))
            self.beaten(dealing, "people", 1, by.number, call)

    def test_the_least_row_and_its_last_writer(self):
        dealing = self.dealings.begin()
        for row in ((10, "a", 1), (9, "a", 1), (-3, "a", 1), NEW, ROME):
            dealing.put("people", row)
        self.kept(("people", (10, "b", 1)), ("people", (9, "b", 1)))
        self.kept(("people", (9, "c", 1)), ("people", MOVED), ("people", (0, "c", 1)))
        self.kept(("people", (10, "d", 1)))
        self.beaten(dealing, "people", 7, 3)

    def test_numbers_by_size_and_the_last_of_several(self):
        dealing = self.dealings.begin()
        dealing.put("people", (10, "a", 1))
        dealing.put("people", (9, "a", 1))
        self.kept(("people", (9, "b", 1)))
        self.kept(("people", (9, "c", 1)))
        self.kept(("people", (10, "d", 1)))
        self.beaten(dealing, "people", 9, 3)

    def test_by_tables_name_first(self):
        dealing = self.dealings.begin()
        dealing.put("people", (-10 ** 9, "a", 1))
        dealing.put("cities", ("zzz", 1))
        dealing.put("cities", ("zz", 1))
        self.kept(("people", (-10 ** 9, "b", 1)))
        self.kept(("cities", ("zzz", 2)))
        self.kept(("cities", ("zz", 2)))
        self.beaten(dealing, "cities", "zz", 4)

    def test_the_same_row_put_again_counts(self):
        dealing = self.dealings.begin()
        dealing.put("people", ROME)
        by = self.kept(("people", ROME))
        self.beaten(dealing, "people", 7, by.number)

    def test_a_cut_beats_and_is_beaten(self):
        dealing = self.dealings.begin()
        dealing.put("people", MOVED)
        cutting = self.dealings.begin()
        cutting.cut("people", 7)
        by = self.kept(("people", 7, None))
        self.beaten(dealing, "people", 7, by.number)
        self.beaten(cutting, "people", 7, by.number)

    def test_put_and_cut_by_one_dealing_beats(self):
        dealing = self.dealings.begin()
        dealing.put("people", NEW)
        by = self.kept(("people", NEW), ("people", 1, None))
        self.beaten(dealing, "people", 1, by.number)

    def test_one_kept_that_began_later_beats(self):
        dealing = self.dealings.begin()
        self.kept(("people", NEW))
        self.kept(("people", (1, "b", 2)))
        dealing.put("people", (1, "c", 3))
        self.beaten(dealing, "people", 1, 3)

    def test_a_row_that_was_cut_and_swept_away(self):
        dealing = self.dealings.begin()
        dealing.put("people", NEW)
        self.kept(("people", (1, "a", 1)))
        by = self.kept(("people", 1, None))
        self.kept(("cities", ("rome", 1)))
        self.dealings.swept()
        self.beaten(dealing, "people", 1, by.number)

    def test_nothing_written_is_never_beaten(self):
        dealing = self.dealings.begin()
        self.kept(("people", MOVED), ("people", 5, None))
        self.dealings.keep_it(dealing)
        self.same(dealing.fate(), ("kept", 0, None))

    def test_a_beaten_one_beats_nobody(self):
        one = self.dealings.begin()
        other = self.dealings.begin()
        for dealing in (one, other):
            dealing.put("people", NEW)
        one.put("people", MOVED)
        by = self.kept(("people", MOVED))
        self.beaten(one, "people", 7, by.number)
        self.assertIsNone(self.dealings.keep_it(other))


class SweptTest(DealingsCase):
    def told_makes(self):
        told = []
        for make in range(self.makes.last_make() + 1):
            try:
                self.makes.rows_at(make, "people")
                told.append(make)
            except NoMake:
                pass
        return told

    def test_just_those_of_open_dealings_and_the_last(self):
        first = self.dealings.begin()
        self.kept(("people", MOVED))
        gone = self.dealings.begin()
        self.kept(("people", ROME))
        second = self.dealings.begin()
        third = self.dealings.begin()
        self.kept(("people", NEW))
        self.kept(("people", 7, None))
        self.dealings.broken(gone)
        reads = [self.all_read(dealing) for dealing in (first, second, third)]
        self.assertIsNone(self.dealings.swept())
        self.assertEqual(self.told_makes(), [0, 2, 4])
        self.same([self.all_read(dealing) for dealing in (first, second, third)], reads)
        self.dealings.keep_it(first)
        self.dealings.keep_it(second)
        self.dealings.swept()
        self.assertEqual(self.told_makes(), [2, 4])
        self.dealings.broken(third)
        self.dealings.swept()
        self.assertEqual(self.told_makes(), [4])
        self.same(self.dealings.begin().rows_of("people"), [(-2, "oslo", 30), NEW, (5, "oslo", 12)])

    def test_without_open_ones(self):
        self.dealings.swept()
        self.assertEqual(self.told_makes(), [0])
        self.kept(("people", MOVED))
        self.dealings.swept()
        self.assertEqual(self.told_makes(), [1])
        self.same(self.makes.versions(), 5)


class Told:
    """One dealing of the model: what it began on, and what it wrote."""

    def __init__(self, number, makes):
        self.number, self.begun, self.base = number, len(makes) - 1, makes[-1]
        self.wrote = {}
        self.fate = ("open", self.begun)

    def tables(self):
        tables = dict(self.base)
        tables.update(self.wrote)
        return {place: row for place, row in tables.items() if row is not None}


class WovenTest(DealingsCase):
    """Weaves of dealings against a model that keeps each make as a whole [6], [36]."""

    def setUp(self):
        DealingsCase.setUp(self)
        self.model = [{(table, row[0]): row for table in FIRST_ROWS for row in FIRST_ROWS[table]}]
        self.writers = [(0, {})]
        self.pairs = []

    def agree(self):
        for dealing, told in self.pairs:
            self.same(dealing.fate(), told.fate)
            self.same(dealing.written(), [place + (told.wrote[place],) for place in sorted(told.wrote)])
            if told.fate[0] != "open":
                self.refused(Over, {"number": told.number}, dealing.rows_of, "people")
                continue
            tables = told.tables()
            for table in KEYS:
                rows = sorted(row for place, row in tables.items() if place[0] == table)
                self.same(dealing.rows_of(table), rows)
                for key in KEYS[table]:
                    self.same(dealing.row_of(table, key), tables.get((table, key)))
                for column in ORDERED[table]:
                    place = COLUMNS[table].index(column)
                    self.same(dealing.order_of(table, column), sorted((row[place], row[0]) for row in rows))
        self.same(self.makes.last_make(), len(self.model) - 1)
        self.same(self.tables_now(), [sorted(row for place, row in self.model[-1].items() if place[0] == table)
                                      for table in KEYS])
        self.same(self.dealings.open_list(), [told.number for dealing, told in self.pairs if told.fate[0] == "open"])

    def write(self, chance, dealing, told):
        table = chance.choice(list(KEYS))
        key = chance.choice(KEYS[table])
        if chance.random() < 0.6:
            row = (key, chance.choice("ab"), chance.randrange(3)) if table == "people" else (key, chance.randrange(3))
            dealing.put(table, row)
            told.wrote[(table, key)] = row
        elif (table, key) in told.tables():
            dealing.cut(table, key)
            told.wrote[(table, key)] = None
        else:
            self.refused(NoRow, {"table": table, "key": key}, dealing.cut, table, key)

    def keep(self, dealing, told):
        since = [(number, wrote) for number, wrote in self.writers[told.begun + 1:]]
        both = sorted(place for place in told.wrote if any(place in wrote for number, wrote in since))
        if both:
            by = [number for number, wrote in since if both[0] in wrote][-1]
            values = {"table": both[0][0], "key": both[0][1], "by": by}
            self.refused(Beaten, values, self.dealings.keep_it, dealing)
            told.fate = ("broken", told.begun)
            return
        self.dealings.keep_it(dealing)
        told.fate = ("kept", told.begun, None)
        if told.wrote:
            tables = dict(self.model[-1])
            tables.update(told.wrote)
            self.model.append({place: row for place, row in tables.items() if row is not None})
            self.writers.append((told.number, dict(told.wrote)))
            told.fate = ("kept", told.begun, len(self.model) - 1)

    def deed(self, chance):
        still = [pair for pair in self.pairs if pair[1].fate[0] == "open"]
        what = chance.random()
        if what < 0.2 and len(still) < 12 or not still:
            self.pairs.append((self.dealings.begin(), Told(len(self.pairs) + 1, self.model)))
        elif what < 0.7:
            self.write(chance, *chance.choice(still))
        elif what < 0.9:
            self.keep(*chance.choice(still))
        elif what < 0.95:
            self.dealings.swept()
        else:
            dealing, told = chance.choice(still)
            self.dealings.broken(dealing)
            told.fate = ("broken", told.begun)

    def test_weaves(self):
        beaten = 0
        for seed in range(20):
            self.setUp()
            chance = random.Random(seed)
            for step in range(70):
                self.deed(chance)
                self.agree()
            beaten += len([told for dealing, told in self.pairs if told.fate[0] == "broken"])
        self.assertGreater(beaten, 20)


if __name__ == "__main__":
    unittest.main()
