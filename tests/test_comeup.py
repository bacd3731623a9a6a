"""Tables seen from pages and the log, and coming up [53] to [56], [7] of them, and [4], [5]."""

import random
import unittest

from helper import Case, whole
from planstore.comeup import come_up, seen
from planstore.disk import Disk
from planstore.errors import Fell
from planstore.logrows import row_text
from planstore.pages import late_page, trim_log
from planstore.schema import schema_in

TOWNS = "people id:number city:word | cities name:word | order people city"


def down(disk):
    """The disk falls at a write that changes nothing."""
    disk.fall_at(0, 0)
    try:
        disk.cut_tail(10 ** 6)
    except Fell:
        return disk


class SeenCase(Case):
    def setUp(self):
        self.schema = schema_in(TOWNS)
        self.disk = Disk()

    def log(self, *texts):
        for text in texts:
            self.disk.add_row(text)

    def sees(self, people, cities, number, keeps):
        wanted = ({"people": people, "cities": cities}, number, keeps)
        before = whole(self.disk)
        self.same(seen(self.disk, self.schema), wanted)
        self.same(whole(self.disk), before)
        self.same(seen(self.disk, self.schema), wanted)


class SeenTest(SeenCase):
    def test_a_new_disk(self):
        self.sees([], [], 0, 0)

    def test_from_the_log_alone(self):
        self.log("1 set cities rome;", "2 set people 7 rome;", "3 set people -2 oslo;", "4 keep 1;",
                 "5 cut cities rome;", "6 set people 7 oslo;", "7 keep 2;", "8 set cities bergen;", "9 keep 3;")
        self.sees([(-2, "oslo"), (7, "oslo")], [("bergen",)], 9, 3)

    def test_from_pages_alone(self):
        self.disk.put_page(0, "page people 12 3 | 1 oslo | 2 bergen;")
        self.disk.put_page(3, "page cities 9 2 | rome;")
        self.sees([(1, "oslo"), (2, "bergen")], [("rome",)], 12, 3)
        self.disk.put_page(2, "page cities 15 7;")
        self.sees([(1, "oslo"), (2, "bergen")], [], 15, 7)

    def test_from_both(self):
        self.disk.put_page(0, "page people 4 1 | 1 oslo | 2 bergen;")
        self.disk.put_page(2, "page cities 7 2 | rome;")
        self.log("5 set people 3 rome;", "6 cut people 1;", "7 keep 2;", "8 cut cities rome;", "9 set people 1 rome;",
                 "10 keep 3;")
        self.sees([(1, "rome"), (2, "bergen"), (3, "rome")], [], 10, 3)

    def test_rows_up_to_the_pages_last_are_in_the_page(self):
        self.log("1 set people 1 oslo;", "2 keep 1;", "3 set people 1 rome;", "4 set people 2 rome;", "5 keep 2;",
                 "6 cut people 2;", "7 keep 3;")
        for last, many, rows in ((2, 1, " | 1 oslo"), (5, 2, " | 1 rome | 2 rome"), (7, 3, " | 1 rome")):
            self.disk.put_page(1, f"page people {last} {many}{rows};")
            self.sees([(1, "rome")], [], 7, 3)

    def test_a_table_without_a_whole_page(self):
        self.disk.put_page(2, "page cities 3 1 | rome;")
        self.disk.put_page(0, "page people 3 1 | 1 os")
        self.log("1 set cities rome;", "2 set people 1 oslo;", "3 keep 1;")
        self.sees([(1, "oslo")], [("rome",)], 3, 1)

    def test_the_newest_of_two_pages(self):
        self.log("1 set people 1 a;", "2 keep 1;", "3 set people 1 b;", "4 keep 2;", "5 cut people 1;", "6 keep 3;")
        self.disk.put_page(0, "page people 2 1 | 1 a;")
        self.disk.put_page(1, "page people 4 2 | 1 b;")
        self.sees([], [], 6, 3)
        self.disk.cut_head(4)
        self.disk.put_page(3, "page cities 4 2;")
        self.sees([], [], 6, 3)
        self.disk.cut_tail(0)
        self.sees([(1, "b")], [], 4, 2)

    def test_two_pages_with_one_last(self):
        self.disk.put_page(0, "page people 4 2 | 1 b;")
        self.disk.put_page(1, "page people 4 2 | 1 b;")
        self.log("1 set people 1 a;", "2 keep 1;", "3 set people 1 b;", "4 keep 2;")
        self.sees([(1, "b")], [], 4, 2)

    def test_rows_behind_the_last_keep_row(self):
        self.log("1 set people 1 a;", "2 keep 1;")
        self.sees([(1, "a")], [], 2, 1)
        for text in ("3 set people 1 b;", "4 cut people 1;", "5 set cities rome;", "6 kee"):
            self.log(text)
            self.sees([(1, "a")], [], 2, 1)

    def test_one_text_more_that_says_nothing(self):
        for torn in ("3", "3 keep 2", "3 set people 2 a", "3 cut peo", " "):
            self.disk = Disk()
            self.log("1 set people 1 a;", "2 keep 1;", torn)
            self.sees([(1, "a")], [], 2, 1)

    def test_without_any_keep_row(self):
        self.log("1 set people 1 a;", "2 set cities rome;")
        self.sees([], [], 0, 0)
        self.disk.put_page(0, "page people 0 0;")
        self.sees([], [], 0, 0)

    def test_without_any_keep_row_behind_the_pages(self):
        self.disk.put_page(0, "page people 4 2 | 1 b;")
        self.disk.put_page(2, "page cities 4 2 | rome;")
        self.log("5 set people 1 c;", "6 cut cities rome;", "7 ke")
        self.sees([(1, "b")], [("rome",)], 4, 2)

    def test_cuts_of_rows_that_are_not_there(self):
        self.log("1 cut people 1;", "2 set people 2 a;", "3 cut people 3;", "4 keep 1;")
        self.sees([(2, "a")], [], 4, 1)

    def test_the_last_write_of_a_key_counts(self):
        self.log("1 set people 1 a;", "2 set people 1 b;", "3 cut people 1;", "4 set people 1 c;", "5 keep 1;")
        self.sees([(1, "c")], [], 5, 1)

    def test_like_keys_of_two_tables(self):
        self.schema = schema_in("people id:number city:word | cities id:number")
        self.log("1 set people 1 a;", "2 set cities 1;", "3 cut people 1;", "4 keep 1;")
        self.sees([], [(1,)], 4, 1)

    def test_all_tables_are_told_in_a_dict(self):
        schema = schema_in("d k:number | b k:number | c k:word | a k:number")
        self.assertEqual(seen(Disk(), schema), ({"a": [], "b": [], "c": [], "d": []}, 0, 0))

    def test_great_numbers(self):
        self.disk.put_page(0, "page people 999999990 1000 | 1 a;")
        self.disk.put_page(2, "page cities 999999990 1000;")
        self.log("999999991 cut people 1;", "999999992 keep 1001;")
        self.sees([], [], 999999992, 1001)
        self.disk.put_page(1, "page people 1000000000 1000000000;")
        self.sees([], [], 10 ** 9, 10 ** 9)

    def test_on_a_disk_that_is_down(self):
        self.log("1 set people 1 a;", "2 keep 1;", "3 set people 2 a;")
        down(self.disk)
        self.sees([(1, "a")], [], 2, 1)

    def test_what_is_told_is_the_askers_own(self):
        self.disk.put_page(2, "page cities 3 1 | rome;")
        for ask in (seen, come_up):
            told = ask(self.disk, self.schema)
            told[0]["cities"].clear()
            told[0].clear()
            self.sees([], [("rome",)], 3, 1)


class ComeUpTest(SeenCase):
    def comes_up(self, stay, wrote):
        before = whole(self.disk)
        wanted = seen(self.disk, self.schema)
        self.same(come_up(self.disk, self.schema), wanted)
        self.same(whole(self.disk), (before[0][:stay], before[1], before[2] + wrote))
        self.same(seen(self.disk, self.schema), wanted)
        again = whole(self.disk)
        self.same(come_up(self.disk, self.schema), wanted)
        self.same(whole(self.disk), again)

    def test_where_there_is_nothing_to_cut(self):
        self.comes_up(0, 0)
        self.log("1 set people 1 a;", "2 keep 1;")
        self.comes_up(2, 0)
        self.disk.put_page(0, "page people 2 1 | 1 a;")
        self.comes_up(2, 0)

    def test_rows_behind_those_that_count(self):
        for tail in (["3 set people 1 b;"], ["3 cut people 1;", "4 keep"], ["3"],
                     ["3 set cities a;", "4 set cities b;", "5 "]):
            self.disk = Disk()
            self.log("1 set people 1 a;", "2 keep 1;", *tail)
            self.comes_up(2, 1)

    def test_a_log_without_a_keep_row(self):
        self.log("1 set people 1 a;")
        self.comes_up(0, 1)
        self.log("1 s")
        self.comes_up(0, 1)

    def test_a_tail_behind_a_trimmed_head(self):
        self.disk.put_page(0, "page people 2 1 | 1 a;")
        self.disk.put_page(2, "page cities 2 1;")
        self.log("3 set people 1 b;", "4 keep 2;", "5 cut people 1;")
        self.comes_up(2, 1)
        self.disk.cut_head(2)
        self.disk.put_page(1, "page people 4 2 | 1 b;")
        self.disk.put_page(3, "page cities 4 2;")
        self.log("5 cut people 1;")
        self.comes_up(0, 1)

    def test_falls_at_the_cut(self):
        for signs, stay in ((0, 4), (1, 2), (50, 2)):
            self.disk = Disk()
            self.log("1 set people 1 a;", "2 keep 1;", "3 set people 1 b;", "4 ke")
            wanted = seen(self.disk, self.schema)
            self.disk.fall_at(0, signs)
            self.refused(Fell, {}, come_up, self.disk, self.schema)
            self.same(len(self.disk.log_rows()), stay)
            self.same(seen(self.disk, self.schema), wanted)
            if stay == 4:
                self.refused(Fell, {}, come_up, self.disk, self.schema)
            else:
                self.same(come_up(self.disk, self.schema), wanted)
            self.same(len(self.disk.log_rows()), stay)
            self.disk.power()
            self.same(come_up(self.disk, self.schema), wanted)
            self.same(self.disk.log_rows(), ["1 set people 1 a;", "2 keep 1;"])

    def test_on_a_disk_that_is_down(self):
        self.log("1 set people 1 a;", "2 keep 1;")
        down(self.disk)
        self.same(come_up(self.disk, self.schema), ({"people": [(1, "a")], "cities": []}, 2, 1))
        self.disk.power()
        self.log("3 cut people 1;")
        down(self.disk)
        before = whole(self.disk)
        self.refused(Fell, {}, come_up, self.disk, self.schema)
        self.same(whole(self.disk), before)


class Kept:
    """A plain model of what was kept: the tables, and the number of the last row and of the keeps."""

    def __init__(self):
        self.tables = {"people": {}, "cities": {}}
        self.number = 0
        self.keeps = 0

    def told(self):
        tables = {name: [rows[key] for key in sorted(rows)] for name, rows in self.tables.items()}
        return (tables, self.number, self.keeps)


class WeaveTest(SeenCase):
    """Disks in order, written by hand, with pages at keep rows, trims and tails, against a plain model."""

    def stuff(self, chance):
        if chance.random() < 0.5:
            key = chance.randrange(-3, 4)
            return chance.choice([("set", "people", (key, chance.choice("abc"))), ("cut", "people", key)])
        key = chance.choice(["a", "b", "c"])
        return chance.choice([("set", "cities", (key,)), ("cut", "cities", key)])

    def keep_some(self, chance, disk, kept):
        for turn in range(chance.randrange(1, 4)):
            stuff = self.stuff(chance)
            kept.number += 1
            disk.add_row(row_text(kept.number, stuff))
            key = stuff[2][0] if stuff[0] == "set" else stuff[2]
            kept.tables[stuff[1]].pop(key, None)
            if stuff[0] == "set":
                kept.tables[stuff[1]][key] = stuff[2]
        kept.number += 1
        kept.keeps += 1
        disk.add_row(row_text(kept.number, ("keep", kept.keeps)))

    def late_some(self, chance, disk, kept):
        table = chance.choice(["people", "cities"])
        args = (table, kept.number, kept.keeps, kept.told()[0][table])
        if chance.random() < 0.7:
            late_page(disk, self.schema, *args)
            return
        disk.fall_at(0, chance.randrange(12))
        self.refused(Fell, {}, late_page, disk, self.schema, *args)
        disk.power()

    def trim_some(self, chance, disk):
        wanted = seen(disk, self.schema)
        other = disk.copied()
        signs = chance.randrange(3)
        other.fall_at(0, signs)
        many = trim_log(disk, self.schema)
        self.same(seen(disk, self.schema), wanted)
        if many:
            self.refused(Fell, {}, trim_log, other, self.schema)
            self.same(len(other.log_rows()) - len(disk.log_rows()), 0 if signs else many)
        else:
            self.same(trim_log(other, self.schema), 0)
        self.same(seen(other, self.schema), wanted)

    def tail_some(self, chance, disk, kept):
        number = kept.number
        for turn in range(chance.randrange(3)):
            number += 1
            disk.add_row(row_text(number, self.stuff(chance)))
        text = row_text(number + 1, ("keep", kept.keeps + 1))
        torn = text[:chance.randrange(len(text))]
        if torn:
            disk.add_row(torn)

    def test_weaves(self):
        for seed in range(60):
            chance = random.Random(seed)
            disk, kept = Disk(), Kept()
            for turn in range(25):
                deed = chance.randrange(5)
                if deed < 2:
                    self.keep_some(chance, disk, kept)
                elif deed == 2:
                    self.late_some(chance, disk, kept)
                elif deed == 3:
                    self.trim_some(chance, disk)
                else:
                    self.tail_some(chance, disk, kept)
                    self.same(seen(disk, self.schema), kept.told())
                    if chance.random() < 0.5:
                        disk.fall_at(0, chance.randrange(2))
                        if len(disk.log_rows()) and not disk.log_rows()[-1].endswith(f"keep {kept.keeps};"):
                            self.refused(Fell, {}, come_up, disk, self.schema)
                        self.same(seen(disk, self.schema), kept.told())
                        disk.power()
                    self.same(come_up(disk, self.schema), kept.told())
                self.same(seen(disk, self.schema), kept.told())
                self.same(seen(disk.copied(), self.schema), kept.told())


if __name__ == "__main__":
    unittest.main()
