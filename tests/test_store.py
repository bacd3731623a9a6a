"""The store [61] to [64], the promises of the store and of falls [6], [7], and [3], [4], [5] of it."""

import random
import unittest

from helper import Case, ODD_KEYS, small_schema, whole
from planstore.dealings import Dealing
from planstore.disk import Disk
from planstore.errors import Beaten, Fell, NoMake, NoTable, Over, StoreError, TooMany
from planstore.logrows import row_text
from planstore.pages import newest
from planstore.readers import AtMake
from planstore.store import Store

ROME = (7, "rome", 30)
OSLO = (-2, "oslo", 12)
TABLES = ("people", "cities")


class StoreCase(Case):
    def setUp(self):
        self.disk = Disk()
        self.store = Store(self.disk, small_schema())

    def again(self):
        """Another store on the same disk, in the stead of the one that stood."""
        self.store = Store(self.disk, small_schema())
        return self.store

    def wrote(self, *writes):
        """A dealing that was begun now and wrote this: (table, row) puts, (table, key, None) cuts."""
        dealing = self.store.begin()
        for write in writes:
            if len(write) == 2:
                dealing.put(*write)
            else:
                dealing.cut(*write[:2])
        return dealing

    def kept(self, *writes):
        dealing = self.wrote(*writes)
        self.store.keep_it(dealing)
        return dealing

    def tables(self):
        reader = self.store.now()
        return [reader.rows_of(table) for table in TABLES]

    def newest_of(self, table):
        return newest(self.disk, small_schema(), table)

    def down(self):
        """The disk is down behind a keep whose rows all came."""
        dealing = self.wrote(("cities", ("bergen", 1)))
        self.disk.fall_at(1, 1000)
        self.refused(Fell, {}, self.store.keep_it, dealing)


class MakingTest(StoreCase):
    def test_on_a_new_disk(self):
        self.same(self.tables(), [[], []])
        self.same(self.store.keeps(), 0)
        self.same(whole(self.disk), ([], [""] * 8, 0))

    def test_now_is_a_reader_at_the_last_make(self):
        now = self.store.now()
        self.assertIsInstance(now, AtMake)
        self.kept(("people", ROME), ("people", OSLO), ("cities", ("rome", 9)))
        self.same(now.rows_of("people"), [])
        now = self.store.now()
        self.same(now.rows_of("people"), [OSLO, ROME])
        self.same(now.row_of("people", 7), ROME)
        self.same(now.order_of("people", "city"), [("oslo", -2), ("rome", 7)])
        self.kept(("people", 7, None))
        self.same(now.rows_of("people"), [OSLO, ROME])
        self.same(self.store.now().rows_of("people"), [OSLO])

    def test_what_was_kept_is_the_first_make(self):
        self.kept(("people", ROME))
        self.kept(("people", OSLO), ("people", 7, None))
        self.again()
        self.same(self.tables(), [[OSLO], []])
        self.same(self.store.keeps(), 2)
        dealing = self.store.begin()
        self.same((dealing.number, dealing.fate()), (1, ("open", 0)))
        self.same(dealing.rows_of("people"), [OSLO])
        self.store.keep_it(dealing)
        self.same(dealing.fate(), ("kept", 0, None))
        self.same(self.kept(("people", ROME)).fate(), ("kept", 0, 1))
        self.same(self.store.keeps(), 3)

    def test_what_was_not_kept_is_not_there(self):
        self.wrote(("people", ROME))
        self.store.broken(self.wrote(("people", OSLO)))
        self.again()
        self.same((self.tables(), self.store.keeps()), ([[], []], 0))

    def test_orders_tell_what_the_tables_do(self):
        self.kept(("people", ROME), ("people", OSLO), ("people", (3, "oslo", 99)))
        for store in (self.store, self.again()):
            now = store.now()
            self.same(now.order_of("people", "id"), [(-2, -2), (3, 3), (7, 7)])
            self.same(now.order_of("people", "city"), [("oslo", -2), ("oslo", 3), ("rome", 7)])
            self.same(now.order_of("people", "age"), [(12, -2), (30, 7), (99, 3)])

    def test_stores_on_unlike_disks(self):
        other = Store(Disk(), small_schema())
        self.kept(("people", ROME))
        self.same((other.keeps(), other.now().rows_of("people")), (0, []))
        copy = Store(self.disk.copied(), small_schema())
        self.kept(("people", OSLO))
        self.same((copy.keeps(), copy.now().rows_of("people")), (1, [ROME]))

    def test_what_is_told_is_the_askers_own(self):
        self.kept(("people", ROME))
        self.store.now().rows_of("people").clear()
        self.store.now().order_of("people", "age").clear()
        self.store.begin().rows_of("people").clear()
        self.same(self.tables(), [[ROME], []])


class DealingsTest(StoreCase):
    def test_numbers(self):
        self.assertIsInstance(self.store.begin(), Dealing)
        self.same([self.store.begin().number for turn in range(3)], [2, 3, 4])
        self.again()
        self.same(self.store.begin().number, 1)

    def test_at_most_twelve_at_once(self):
        dealings = [self.store.begin() for turn in range(12)]
        self.refused(TooMany, {}, self.store.begin)
        self.store.broken(dealings[4])
        self.same(self.store.begin().number, 13)
        self.refused(TooMany, {}, self.store.begin)
        self.store.keep_it(dealings[5])
        self.same(self.store.begin().number, 14)

    def test_at_most_four_hundred_in_all(self):
        for turn in range(400):
            self.store.broken(self.store.begin())
        self.refused(TooMany, {}, self.store.begin)
        self.same(self.again().begin().number, 1)

    def test_each_reads_the_make_of_its_begin(self):
        one = self.wrote(("people", ROME))
        self.kept(("people", OSLO))
        self.same(one.rows_of("people"), [ROME])
        self.same(self.store.begin().rows_of("people"), [OSLO])
        self.store.keep_it(one)
        self.same(self.tables(), [[OSLO, ROME], []])

    def test_broken_off(self):
        dealing = self.wrote(("people", ROME))
        self.assertIsNone(self.store.broken(dealing))
        self.same(dealing.fate(), ("broken", 0))
        self.same((self.tables(), whole(self.disk)), ([[], []], ([], [""] * 8, 0)))
        for method in (self.store.broken, self.store.keep_it):
            self.refused(Over, {"number": 1}, method, dealing)
        self.refused(Over, {"number": 1}, dealing.rows_of, "people")

    def test_swept(self):
        first = self.store.now()
        one = self.store.begin()
        self.kept(("people", ROME))
        second = self.store.now()
        self.kept(("people", OSLO))
        self.assertIsNone(self.store.swept())
        self.same(first.rows_of("people"), [])
        self.refused(NoMake, {"number": 1}, second.rows_of, "people")
        self.store.broken(one)
        self.store.swept()
        self.refused(NoMake, {"number": 0}, first.rows_of, "people")
        self.same(self.tables(), [[OSLO, ROME], []])
        self.same(self.disk.writes(), 4)


class KeepingTest(StoreCase):
    def test_rows_of_the_log(self):
        self.assertIsNone(self.store.keep_it(self.wrote(("people", ROME), ("cities", ("rome", 9)), ("people", OSLO))))
        self.same(self.disk.log_rows(), [
            "1 set cities rome 9;", "2 set people -2 oslo 12;", "3 set people 7 rome 30;", "4 keep 1;"])
        self.kept(("people", (7, "oslo", 30)), ("cities", "rome", None))
        self.same(self.disk.log_rows()[4:], ["5 cut cities rome;", "6 set people 7 oslo 30;", "7 keep 2;"])
        self.same(self.disk.writes(), 7)
        self.same((self.store.keeps(), self.tables()), (2, [[OSLO, (7, "oslo", 30)], []]))

    def test_a_row_that_was_put_and_cut_is_cut_in_the_log(self):
        self.kept(("people", ROME), ("people", 7, None))
        self.same(self.disk.log_rows(), ["1 cut people 7;", "2 keep 1;"])
        self.same((self.tables(), self.again().keeps(), self.tables()), ([[], []], 1, [[], []]))

    def test_a_row_like_the_one_that_was_there(self):
        self.kept(("people", ROME))
        self.kept(("people", ROME))
        self.same(self.disk.log_rows()[2:], ["3 set people 7 rome 30;", "4 keep 2;"])

    def test_numbers_go_on_in_the_next_store(self):
        self.kept(("people", ROME))
        self.again()
        self.kept(("people", OSLO))
        self.same(self.disk.log_rows()[2:], ["3 set people -2 oslo 12;", "4 keep 2;"])

    def test_numbers_go_on_behind_rows_that_were_cut_off(self):
        self.kept(("people", ROME))
        self.disk.fall_at(1, 3)
        self.refused(Fell, {}, self.store.keep_it, self.wrote(("people", OSLO), ("cities", ("rome", 9))))
        self.same(self.disk.log_rows()[2:], ["3 set cities rome 9;", "4 s"])
        self.disk.power()
        self.again()
        self.same(len(self.disk.log_rows()), 2)
        self.kept(("people", OSLO))
        self.same(self.disk.log_rows()[2:], ["3 set people -2 oslo 12;", "4 keep 2;"])

    def test_a_dealing_that_wrote_nothing(self):
        dealing = self.store.begin()
        self.assertIsNone(self.store.keep_it(dealing))
        self.same(dealing.fate(), ("kept", 0, None))
        self.same((self.store.keeps(), whole(self.disk)), (0, ([], [""] * 8, 0)))
        self.refused(Over, {"number": 1}, self.store.keep_it, dealing)

    def test_a_dealing_that_is_beaten(self):
        one = self.wrote(("people", ROME), ("cities", ("rome", 9)), ("cities", ("oslo", 3)))
        other = self.kept(("people", (7, "oslo", 1)), ("cities", ("rome", 1)))
        before = whole(self.disk)
        self.refused(Beaten, {"table": "cities", "key": "rome", "by": other.number}, self.store.keep_it, one)
        self.same(one.fate(), ("broken", 0))
        self.same((whole(self.disk), self.store.keeps()), (before, 1))
        self.same(self.tables(), [[(7, "oslo", 1)], [("rome", 1)]])
        self.refused(Over, {"number": one.number}, self.store.keep_it, one)
        self.refused(Over, {"number": one.number}, self.store.broken, one)
        self.same(whole(self.disk), before)
        self.same(self.kept(("cities", ("oslo", 3))).fate(), ("kept", 1, 2))
        self.same(self.disk.log_rows()[3:], ["4 set cities oslo 3;", "5 keep 2;"])

    def test_beaten_by_the_last_that_wrote_the_row(self):
        one = self.wrote(("people", ROME))
        self.kept(("people", ROME))
        last = self.kept(("people", 7, None))
        self.store.swept()
        self.refused(Beaten, {"table": "people", "key": 7, "by": last.number}, self.store.keep_it, one)

    def test_one_that_only_reads_is_not_beaten(self):
        self.kept(("people", ROME))
        one = self.store.begin()
        self.same(one.row_of("people", 7), ROME)
        self.kept(("people", OSLO), ("people", 7, None))
        self.store.keep_it(one)
        self.same(one.fate(), ("kept", 1, None))


class LateTest(StoreCase):
    def test_pages(self):
        self.kept(("people", ROME), ("cities", ("rome", 9)))
        self.assertIsNone(self.store.late("people"))
        self.same(self.disk.page(0), "page people 3 1 | 7 rome 30;")
        self.store.late("cities")
        self.same(self.disk.page(2), "page cities 3 1 | rome 9;")
        self.kept(("people", OSLO))
        self.store.late("people")
        self.same(self.disk.page(1), "page people 5 2 | -2 oslo 12 | 7 rome 30;")
        self.same(self.disk.page(0), "page people 3 1 | 7 rome 30;")
        self.kept(("people", 7, None), ("people", -2, None))
        self.store.late("people")
        self.same(self.disk.page(0), "page people 8 3;")
        self.same((len(self.disk.log_rows()), self.disk.writes()), (8, 12))

    def test_ahead_of_all_keeps(self):
        self.store.late("cities")
        self.same(self.disk.page(2), "page cities 0 0;")
        self.same((self.again().keeps(), self.tables()), (0, [[], []]))
        self.kept(("cities", ("rome", 9)))
        self.same(self.disk.log_rows(), ["1 set cities rome 9;", "2 keep 1;"])
        self.same((self.again().keeps(), self.tables()), (1, [[], [("rome", 9)]]))

    def test_rows_of_the_last_make_not_of_dealings(self):
        self.wrote(("people", ROME))
        self.store.late("people")
        self.same(self.disk.page(0), "page people 0 0;")

    def test_no_table(self):
        before = whole(self.disk)
        for thing in ODD_KEYS + ["id"]:
            self.refused(NoTable, {"table": thing}, self.store.late, thing)
        self.same(whole(self.disk), before)

    def test_sixty_rows(self):
        rows = [(key, "abcdefgh", -10 ** 9) for key in range(60)]
        self.kept(*[("people", row) for row in rows])
        self.store.late("people")
        self.same(self.newest_of("people"), (0, 61, 1, rows))
        self.store.late("cities")
        self.same(self.store.trim(), 61)
        self.same((self.again().keeps(), self.tables()), (1, [rows, []]))

    def test_trim(self):
        self.same(self.store.trim(), 0)
        self.kept(("people", ROME), ("cities", ("rome", 9)))
        self.same(self.store.trim(), 0)
        self.store.late("people")
        self.same(self.store.trim(), 0)
        self.kept(("people", OSLO))
        writes = self.disk.writes()
        self.store.late("cities")
        self.same(self.store.trim(), 3)
        self.same(self.store.trim(), 0)
        self.same(self.disk.writes(), writes + 2)
        self.same(self.disk.log_rows(), ["4 set people -2 oslo 12;", "5 keep 2;"])
        self.same((self.again().keeps(), self.tables()), (2, [[OSLO, ROME], [("rome", 9)]]))

    def test_numbers_go_on_behind_a_trimmed_log(self):
        self.kept(("people", ROME))
        for table in TABLES:
            self.store.late(table)
        self.same(self.store.trim(), 2)
        self.same(self.disk.log_rows(), [])
        self.kept(("cities", ("rome", 9)))
        self.same(self.disk.log_rows(), ["3 set cities rome 9;", "4 keep 2;"])
        for table in TABLES:
            self.store.late(table)
        self.same(self.store.trim(), 2)
        self.again()
        self.same((self.store.keeps(), self.tables()), (2, [[ROME], [("rome", 9)]]))
        self.kept(("people", 7, None))
        self.same(self.disk.log_rows(), ["5 cut people 7;", "6 keep 3;"])
        self.same((self.again().keeps(), self.tables()), (3, [[], [("rome", 9)]]))


class FallTest(StoreCase):
    WRITES = (("people", OSLO), ("cities", ("rome", 9)), ("people", ROME))
    TEXTS = ("3 set cities rome 9;", "4 set people -2 oslo 12;", "5 set people 7 rome 30;", "6 keep 2;")

    def all_fell(self, store, *dealings):
        """Each method is refused with Fell, ahead of all else, and nothing is written."""
        before = whole(self.disk)
        for call in (store.begin, store.swept, store.keeps, store.now, store.trim):
            self.refused(Fell, {}, call)
        for thing in ODD_KEYS + list(TABLES):
            self.refused(Fell, {}, store.late, thing)
        for dealing in dealings:
            self.refused(Fell, {}, store.keep_it, dealing)
            self.refused(Fell, {}, store.broken, dealing)
        self.same(whole(self.disk), before)

    def falls_to_try(self):
        for after, text in enumerate(self.TEXTS):
            for signs in (0, 1, len(text) // 2, len(text) - 1, len(text), len(text) + 9):
                yield after, signs

    def test_at_each_write_of_a_keep(self):
        for after, signs in self.falls_to_try():
            self.setUp()
            ended = self.kept(("people", (1, "bergen", 5)))
            standing = self.store.begin()
            dealing = self.wrote(*self.WRITES)
            self.disk.fall_at(after, signs)
            self.refused(Fell, {}, self.store.keep_it, dealing)
            torn = self.TEXTS[after][:signs]
            self.same(self.disk.log_rows()[2:], list(self.TEXTS[:after]) + ([torn] if torn else []))
            self.same(self.disk.writes(), 2 + after + 1)
            self.all_fell(self.store, ended, standing, dealing)
            self.disk.power()
            self.all_fell(self.store, ended, standing, dealing)
            came = torn == self.TEXTS[3]
            old = self.store
            self.again()
            self.same(self.store.keeps(), 2 if came else 1)
            rows = [OSLO, (1, "bergen", 5), ROME] if came else [(1, "bergen", 5)]
            self.same(self.tables(), [rows, [("rome", 9)] if came else []])
            self.same(self.disk.log_rows()[2:], list(self.TEXTS) if came else [])
            self.same(self.tables(), (self.again(), self.tables())[1])
            self.all_fell(old, ended, standing, dealing)
            self.kept(("people", 1, None))
            self.same(self.disk.log_rows()[-2:],
                      ["7 cut people 1;", "8 keep 3;"] if came else ["3 cut people 1;", "4 keep 2;"])

    def test_its_dealings_are_read_and_written_as_before(self):
        self.kept(("people", (1, "bergen", 5)))
        standing = self.wrote(("people", ROME))
        dealing = self.wrote(("people", OSLO))
        self.disk.fall_at(1, 2)
        self.refused(Fell, {}, self.store.keep_it, dealing)
        self.same(standing.rows_of("people"), [(1, "bergen", 5), ROME])
        self.same(dealing.rows_of("people"), [OSLO, (1, "bergen", 5)])
        self.same(dealing.written(), [("people", -2, OSLO)])
        for one in (standing, dealing):
            one.put("cities", ("rome", 9))
            one.cut("people", 1)
            self.same(one.rows_of("cities"), [("rome", 9)])
            self.same(one.row_of("people", 1), None)
        self.same(standing.order_of("people", "age"), [(30, 7)])
        self.same(standing.fate(), ("open", 1))

    def test_readers_of_a_store_that_fell(self):
        self.kept(("people", ROME))
        now = self.store.now()
        self.down()
        self.same(now.rows_of("people"), [ROME])

    def test_at_a_late_page(self):
        text = "page people 4 2 | -2 oslo 12 | 7 rome 30;"
        for signs in (0, 1, 17, len(text) - 1, len(text), len(text) + 1):
            self.setUp()
            self.kept(("people", ROME))
            self.store.late("people")
            dealing = self.kept(("people", OSLO))
            self.disk.fall_at(0, signs)
            self.refused(Fell, {}, self.store.late, "people")
            self.same(self.disk.page(1), text[:signs])
            self.all_fell(self.store, dealing)
            self.disk.power()
            self.all_fell(self.store, dealing)
            self.same((self.again().keeps(), self.tables()), (2, [[OSLO, ROME], []]))
            self.store.late("people")
            self.store.late("cities")
            self.same(self.store.trim(), 4)
            self.same((self.again().keeps(), self.tables()), (2, [[OSLO, ROME], []]))

    def test_at_a_trim(self):
        for signs, stay in ((0, 2), (1, 0), (9, 0)):
            self.setUp()
            dealing = self.kept(("people", ROME))
            self.store.late("people")
            self.store.late("cities")
            self.disk.fall_at(0, signs)
            self.refused(Fell, {}, self.store.trim)
            self.same(len(self.disk.log_rows()), stay)
            self.all_fell(self.store, dealing)
            self.disk.power()
            self.all_fell(self.store, dealing)
            self.same((self.again().keeps(), self.tables()), (1, [[ROME], []]))
            self.kept(("people", OSLO))
            self.same(self.disk.log_rows()[stay:], ["3 set people -2 oslo 12;", "4 keep 2;"])

    def test_at_coming_up(self):
        for signs, stay in ((0, 4), (1, 2), (9, 2)):
            self.setUp()
            self.kept(("people", ROME))
            self.disk.fall_at(1, 4)
            self.refused(Fell, {}, self.store.keep_it, self.wrote(("people", OSLO)))
            self.refused(Fell, {}, Store, self.disk, small_schema())
            self.disk.power()
            self.disk.fall_at(0, signs)
            self.refused(Fell, {}, Store, self.disk, small_schema())
            self.same(len(self.disk.log_rows()), stay)
            self.disk.power()
            self.same((self.again().keeps(), self.tables()), (1, [[ROME], []]))
            self.same(len(self.disk.log_rows()), 2)

    def test_on_a_disk_that_is_down_with_nothing_to_be_cut_off(self):
        self.kept(("people", ROME))
        self.down()
        store = self.again()
        self.same((store.keeps(), self.tables()), (2, [[ROME], [("bergen", 1)]]))
        nothing = store.begin()
        store.keep_it(nothing)
        self.same(nothing.fate(), ("kept", 0, None))
        store.broken(store.begin())
        store.swept()
        self.same(store.trim(), 0)
        self.refused(NoTable, {"table": "towns"}, store.late, "towns")
        before = whole(self.disk)
        dealing = self.wrote(("people", OSLO))
        self.refused(Fell, {}, store.keep_it, dealing)
        self.same(whole(self.disk), before)
        self.disk.power()
        self.all_fell(store, nothing, dealing)
        self.same((self.again().keeps(), self.tables()), (2, [[ROME], [("bergen", 1)]]))

    def test_late_and_trim_on_a_disk_that_is_down(self):
        self.kept(("people", ROME))
        self.store.late("people")
        self.store.late("cities")
        self.down()
        for method, args in (("late", ["people"]), ("trim", [])):
            store = self.again()
            before = whole(self.disk)
            self.refused(Fell, {}, getattr(store, method), *args)
            self.same(whole(self.disk), before)
            self.all_fell(store)

    def test_a_beaten_dealing_is_refused_so_also_where_a_fall_is_told(self):
        one = self.wrote(("people", ROME))
        self.kept(("people", ROME))
        self.disk.fall_at(0, 0)
        self.refused(Beaten, {"table": "people", "key": 7, "by": 2}, self.store.keep_it, one)
        self.same(self.store.keeps(), 1)
        self.refused(Fell, {}, self.store.keep_it, self.wrote(("people", OSLO)))


class Model:
    """What a disk was told kept, as plain dicts."""

    def __init__(self):
        self.tables = {table: {} for table in TABLES}
        self.keeps = 0

    def rows(self):
        return [[rows[key] for key in sorted(rows)] for rows in self.tables.values()]

    def keep(self, written):
        for table, key, row in written:
            self.tables[table].pop(key, None)
            if row is not None:
                self.tables[table][key] = row
        self.keeps += 1


class WeaveTest(StoreCase):
    """Weaves of dealings, late pages, trims, sweeps and falls, also while coming up, against the model."""

    def one_write(self, chance, dealing):
        table = chance.choice(TABLES)
        key = chance.randrange(5) if table == "people" else chance.choice("abc")
        if chance.random() < 0.6:
            dealing.put(table,
                        (key, chance.choice("xy"), chance.randrange(9)) if table == "people" else (key,
                                                                                                   chance.randrange(9)))
        elif dealing.row_of(table, key) is not None:
            dealing.cut(table, key)

    def keep_row_came(self, dealing):
        return self.disk.log_rows()[-1:] == [row_text(self.expected + len(dealing.written()) + 1,
                                                      ("keep", self.model.keeps + 1))]

    def one_deed(self, chance, standing):
        deed = chance.randrange(10)
        if deed < 2 and len(standing) < 4:
            standing.append(self.store.begin())
        elif deed < 5 and standing:
            self.one_write(chance, chance.choice(standing))
        elif deed < 7 and standing:
            self.one_keep(standing.pop(chance.randrange(len(standing))))
        elif deed == 7:
            self.store.late(chance.choice(TABLES))
        elif deed == 8:
            self.store.trim()
        else:
            self.store.swept()

    def one_keep(self, dealing):
        written = dealing.written()
        try:
            self.store.keep_it(dealing)
        except Beaten:
            self.same(dealing.fate()[0], "broken")
            return
        except Fell:
            if written and self.keep_row_came(dealing):
                self.model.keep(written)
                self.expected += len(written) + 1
            raise
        if written:
            self.model.keep(written)
            self.expected += len(written) + 1

    def up_again(self, chance):
        self.disk.power()
        while chance.random() < 0.5:
            self.disk.fall_at(0, chance.randrange(2))
            try:
                Store(self.disk, small_schema())
            except Fell:
                pass
            self.disk.power()
        self.again()

    def test_weaves(self):
        for seed in range(80):
            chance = random.Random(seed)
            self.setUp()
            self.model, self.expected, standing = Model(), 0, []
            for turn in range(80):
                if chance.random() < 0.1:
                    self.disk.fall_at(chance.randrange(6), chance.choice([0, 1, 5, 12, 99]))
                try:
                    self.one_deed(chance, standing)
                except Fell:
                    self.refused(Fell, {}, self.store.keeps)
                    self.up_again(chance)
                    standing = []
                self.same((self.store.keeps(), self.tables()), (self.model.keeps, self.model.rows()))
                if chance.random() < 0.2:
                    copy = Store(self.disk.copied(), small_schema())
                    self.same(copy.keeps(), self.model.keeps)
                    self.same([copy.now().rows_of(table) for table in TABLES], self.model.rows())

    def test_all_refusals_stand_under_one(self):
        self.down()
        with self.assertRaises(StoreError):
            self.store.keeps()


if __name__ == "__main__":
    unittest.main()
