"""Pages, their slots and the trimming of the log [51], [52], [56], and [4], [5] of them."""

import re
import unittest

from helper import Case, ODD_THINGS, small_schema
from planstore.disk import Disk
from planstore.errors import Fell, NoTable
from planstore.logrows import row_text
from planstore.pages import late_page, newest, page_in, page_text, slots_of, trim_log
from planstore.schema import Schema, schema_in

TOWNS = "people id:number city:word | cities name:word | order people city"
FOUR = "d k:number | b k:number v:word | c k:word | a k:number x:number y:number z:word"
MOST = 10 ** 9
TWO_PAGES = ("page cities 4 2 | oslo 3 | rome 9;", "page people 12 3 | -5 oslo 0 | 2 bergen -7 | 10 a 1000000000;")
NOT_WRITTEN = (None, 0, 0, [])


def number_said(text):
    """The number that is written so, by a pattern, apart from the program."""
    if not re.fullmatch("0|-?[1-9][0-9]{0,9}", text) or abs(int(text)) > MOST:
        return None
    return int(text)


def value_said(kind, text):
    if kind == "number":
        return number_said(text)
    return text if re.fullmatch("[a-z]{1,8}", text) else None


def page_said(schema, text):
    """What a text says as a page, read once more by patterns."""
    found = re.fullmatch(r"page ([a-z]{1,8}) ([0-9]+) ([0-9]+)((?: \| [^;|]+)*);", text)
    if not found or found.group(1) not in schema.table_names():
        return None
    last, many = number_said(found.group(2)), number_said(found.group(3))
    kinds = [kind for name, kind in schema.columns_of(found.group(1))]
    rows = [tuple(words.split(" ")) for words in found.group(4).split(" | ")[1:]]
    if last is None or many is None or any(len(row) != len(kinds) for row in rows) or len(rows) > 60:
        return None
    rows = [tuple(value_said(kind, word) for kind, word in zip(kinds, row)) for row in rows]
    keys = [row[0] for row in rows]
    if any(None in row for row in rows) or any(one >= other for one, other in zip(keys, keys[1:])):
        return None
    return (found.group(1), last, many, rows)


class TextsTest(Case):
    def both_ways(self, schema, text, *page):
        self.same(page_text(*page), text)
        self.same(page_in(schema, text), page)

    def test_as_the_document_writes_it(self):
        self.both_ways(schema_in(TOWNS), "page people 12 3 | 1 oslo | 2 bergen;",
                       "people", 12, 3, [(1, "oslo"), (2, "bergen")])

    def test_each_table(self):
        schema = schema_in(FOUR)
        self.both_ways(schema, "page d 1 1 | 5;", "d", 1, 1, [(5,)])
        self.both_ways(schema, "page b 7 2 | -3 x | 0 page | 12 abcdefgh;", "b", 7, 2,
                       [(-3, "x"), (0, "page"), (12, "abcdefgh")])
        self.both_ways(schema, "page c 30 30 | a | ab | b;", "c", 30, 30, [("a",), ("ab",), ("b",)])
        self.both_ways(schema, "page a 8 3 | 2 -1 0 z;", "a", 8, 3, [(2, -1, 0, "z")])

    def test_without_rows(self):
        for table in ("d", "b", "c", "a"):
            self.both_ways(schema_in(FOUR), f"page {table} 12 3;", table, 12, 3, [])

    def test_with_sixty_rows_and_one_more(self):
        schema = schema_in(TOWNS)
        rows = [(key, "oslo") for key in range(-30, 30)]
        text = "page people 90 4" + "".join(f" | {key} oslo" for key in range(-30, 30)) + ";"
        self.both_ways(schema, text, "people", 90, 4, rows)
        self.assertIsNone(page_in(schema, text[:-1] + " | 30 oslo;"))

    def test_the_bounds_of_last_and_many(self):
        schema = schema_in(TOWNS)
        for last in (0, 1, MOST - 1, MOST):
            for many in (0, 1, MOST - 1, MOST):
                self.both_ways(schema, f"page cities {last} {many} | rome;", "cities", last, many, [("rome",)])
        for wrong in ("-1", "-0", "+1", "00", "01", "1000000001", "99999999999", "9" * 40, "x", "", "1.0", "1_0"):
            self.assertIsNone(page_in(schema, f"page cities {wrong} 3 | rome;"), wrong)
            self.assertIsNone(page_in(schema, f"page cities 3 {wrong} | rome;"), wrong)

    def test_the_bounds_of_keys(self):
        self.both_ways(schema_in("t k:number"), "page t 2 1 | -1000000000 | 1000000000;", "t", 2, 1,
                       [(-MOST,), (MOST,)])
        for wrong in ("-1000000001", "-0", "05"):
            self.assertIsNone(page_in(schema_in("t k:number"), f"page t 2 1 | {wrong};"))
        self.assertIsNone(page_in(schema_in("t k:number"), "page t 2 1 | 1000000001;"))

    def test_a_table_that_is_called_page(self):
        schema = Schema([("page", [("page", "word")])])
        self.both_ways(schema, "page page 1 1 | page;", "page", 1, 1, [("page",)])

    def test_rows_that_do_not_rise(self):
        schema = schema_in(TOWNS)
        for rows in ("2 a | 1 b", "1 a | 1 a", "1 a | 1 b", "1 a | 3 a | 2 a", "-1 a | -2 a", "10 a | 9 a"):
            self.assertIsNone(page_in(schema, f"page people 5 1 | {rows};"), rows)
        self.same(page_in(schema, "page people 5 1 | 9 a | 10 a;"), ("people", 5, 1, [(9, "a"), (10, "a")]))
        for rows in ("b | a", "a | a", "ab | a"):
            self.assertIsNone(page_in(schema, f"page cities 5 1 | {rows};"), rows)

    def test_rows_that_do_not_fit(self):
        schema = schema_in(TOWNS)
        for row in ("1", "1 a b", "a 1", "1 1", "a a", "", " ", "1 ", " 1 a", "1 a ", "1  a", "1 A", "1 ninelette",
                    "1 'a'",
                    "x 1 a", "1 a;", "1|a"):
            self.assertIsNone(page_in(schema, f"page people 5 1 | {row};"), row)
            self.assertIsNone(page_in(schema, f"page people 5 1 | 0 a | {row};"), row)
            self.assertIsNone(page_in(schema, f"page people 5 1 | {row} | 3 a;"), row)

    def test_heads_that_are_none(self):
        schema = schema_in(TOWNS)
        for head in ("", "page", "page cities", "page cities 1", "page cities 1 1 1", "Page cities 1 1", "cities 1 1",
                     "page towns 1 1", "page Cities 1 1", "page  1 1", " page cities 1 1", "page cities 1 1 ",
                     "page  cities 1 1", "set cities 1 1", "page cities | 1 1", "page order 1 1"):
            self.assertIsNone(page_in(schema, head + ";"), head)
            self.assertIsNone(page_in(schema, head + " | rome;"), head)
        self.same(page_in(schema, "page cities 1 1;"), ("cities", 1, 1, []))

    def test_by_another_schema(self):
        text = "page people 12 3 | 1 oslo;"
        self.same(page_in(schema_in("people id:number city:word"), text), ("people", 12, 3, [(1, "oslo")]))
        for other in ("people id:number city:number", "people id:word city:word", "people id:number",
                      "folk id:number city:word",
                      "people id:number city:word age:number"):
            self.assertIsNone(page_in(schema_in(other), text), other)

    def test_every_beginning_and_one_sign_more(self):
        schema = small_schema()
        for text in TWO_PAGES:
            self.assertIsNotNone(page_in(schema, text))
            for many in range(len(text)):
                self.assertIsNone(page_in(schema, text[:many]), text[:many])
            for sign in "; |a0-\n":
                self.assertIsNone(page_in(schema, text + sign))
                self.assertIsNone(page_in(schema, sign + text))

    def test_a_sign_more_less_or_changed(self):
        schema = small_schema()
        for text in TWO_PAGES:
            self.same(page_in(schema, text), page_said(schema, text))
            for place in range(len(text)):
                for sign in ("", " ", "|", ";", "-", "0", "1", "9", "a", "z", "A", "\n", "'"):
                    for changed in (text[:place] + sign + text[place:], text[:place] + sign + text[place + 1:]):
                        said = page_in(schema, changed)
                        self.same(said, page_said(schema, changed))
                        if said is not None:
                            self.same(page_text(*said), changed)

    def test_what_is_no_text(self):
        page = ("cities", 1, 1, [("rome", 9)])
        for thing in ODD_THINGS + [b"page cities 1 1;", ["page cities 1 1;"], ("page cities 1 1;",), page]:
            self.assertIsNone(page_in(small_schema(), thing))

    def test_figures_of_other_scripts(self):
        for wrong in ("page cities \u0661 1;", "page cities 1 \u00b2;", "page cities 1 1 | \u00e4 1;"):
            self.assertIsNone(page_in(small_schema(), wrong))

    def test_nothing_is_changed_or_shared(self):
        rows = [("oslo", 3)]
        text = page_text("cities", 1, 1, rows)
        self.same(rows, [("oslo", 3)])
        rows.append(("rome", 9))
        self.same(text, "page cities 1 1 | oslo 3;")
        page_in(small_schema(), text)[3].clear()
        self.same(page_in(small_schema(), text), ("cities", 1, 1, [("oslo", 3)]))


class SlotsTest(Case):
    def test_each_table_has_two(self):
        schema = schema_in(FOUR)
        self.same([slots_of(schema, table) for table in ("d", "b", "c", "a")], [(0, 1), (2, 3), (4, 5), (6, 7)])
        self.same(slots_of(schema_in(TOWNS), "cities"), (2, 3))

    def test_no_table(self):
        disk = Disk()
        for thing in ODD_THINGS + ["id"]:
            values = {"table": thing}
            self.refused(NoTable, values, slots_of, small_schema(), thing)
            self.refused(NoTable, values, newest, disk, small_schema(), thing)
            self.refused(NoTable, values, late_page, disk, small_schema(), thing, 1, 1, [])
        self.same(disk.writes(), 0)

    def test_no_table_goes_ahead_of_a_fall(self):
        disk = Disk()
        disk.fall_at(0, 5)
        self.refused(NoTable, {"table": "towns"}, late_page, disk, small_schema(), "towns", 1, 1, [])
        self.refused(Fell, {}, late_page, disk, small_schema(), "cities", 1, 1, [])
        self.refused(NoTable, {"table": "towns"}, late_page, disk, small_schema(), "towns", 1, 1, [])


class NewestTest(Case):
    def setUp(self):
        self.disk = Disk()
        self.schema = schema_in(FOUR)

    def newest_of(self, table):
        return newest(self.disk, self.schema, table)

    def test_without_a_page(self):
        for table in self.schema.table_names():
            self.same(self.newest_of(table), NOT_WRITTEN)

    def test_one_page_in_either_slot(self):
        for slot in (2, 3):
            self.disk = Disk()
            self.disk.put_page(slot, "page b 12 3 | 1 oslo;")
            self.same(self.newest_of("b"), (slot, 12, 3, [(1, "oslo")]))
            for table in ("d", "c", "a"):
                self.same(self.newest_of(table), NOT_WRITTEN)

    def test_a_page_of_last_nought(self):
        self.disk.put_page(3, "page b 0 0;")
        self.same(self.newest_of("b"), (3, 0, 0, []))
        self.disk.put_page(2, "page b 0 0;")
        self.same(self.newest_of("b"), (2, 0, 0, []))

    def test_the_greater_last_of_two(self):
        old, new = "page c 9 5 | a;", "page c 10 4 | b;"
        self.disk.put_page(4, old)
        self.disk.put_page(5, new)
        self.same(self.newest_of("c"), (5, 10, 4, [("b",)]))
        self.disk.put_page(4, new)
        self.disk.put_page(5, old)
        self.same(self.newest_of("c"), (4, 10, 4, [("b",)]))

    def test_of_two_with_one_last_the_lesser_slot(self):
        self.disk.put_page(4, "page c 9 1 | a;")
        self.disk.put_page(5, "page c 9 2 | b;")
        self.same(self.newest_of("c"), (4, 9, 1, [("a",)]))

    def test_a_page_that_is_not_whole(self):
        self.disk.put_page(6, "page a 20 9 | 1 2 3 z")
        self.same(self.newest_of("a"), NOT_WRITTEN)
        self.disk.put_page(7, "page a 5 2;")
        self.same(self.newest_of("a"), (7, 5, 2, []))

    def test_a_page_of_another_table(self):
        self.disk.put_page(0, "page b 12 3 | 1 oslo;")
        self.disk.put_page(2, "page d 12 3 | 1;")
        self.disk.put_page(4, "page c 12 3;")
        for table, wanted in (("d", NOT_WRITTEN), ("b", NOT_WRITTEN), ("c", (4, 12, 3, [])), ("a", NOT_WRITTEN)):
            self.same(self.newest_of(table), wanted)

    def test_nothing_is_written_and_all_is_the_askers_own(self):
        self.disk.put_page(4, "page c 9 1 | a;")
        self.newest_of("c")[3].clear()
        self.same(self.newest_of("c"), (4, 9, 1, [("a",)]))
        self.newest_of("d")[3].append(1)
        self.same(self.newest_of("d"), NOT_WRITTEN)
        self.same((self.disk.writes(), self.disk.page(4)), (1, "page c 9 1 | a;"))


class LateTest(Case):
    def setUp(self):
        self.disk = Disk()
        self.schema = schema_in(FOUR)

    def late(self, last, rows, table="c"):
        return late_page(self.disk, self.schema, table, last, last, rows)

    def newest_of(self, table):
        return newest(self.disk, self.schema, table)

    def test_into_the_slot_that_has_not_the_newest(self):
        self.assertIsNone(self.late(3, [("a",)]))
        self.same((self.disk.page(4), self.disk.page(5)), ("page c 3 3 | a;", ""))
        for last, slot in ((5, 5), (8, 4), (9, 5), (12, 4)):
            self.late(last, [("b",)])
            self.same(self.newest_of("c"), (slot, last, last, [("b",)]))
        self.same(self.disk.writes(), 5)
        self.same([self.disk.page(slot) for slot in (0, 1, 2, 3, 6, 7)], [""] * 6)
        self.same(self.disk.log_rows(), [])

    def test_with_the_last_of_the_newest(self):
        self.late(3, [])
        self.late(3, [])
        self.same((self.newest_of("c")[0], self.disk.page(5)), (4, "page c 3 3;"))
        self.late(3, [("z",)])
        self.same(self.newest_of("c"), (4, 3, 3, []))
        self.same(self.disk.page(5), "page c 3 3 | z;")
        self.late(4, [("y",)])
        self.same(self.newest_of("c"), (5, 4, 4, [("y",)]))

    def test_where_no_page_is_whole(self):
        self.disk.put_page(4, "torn")
        self.disk.put_page(5, "torn, too")
        self.late(3, [("a",)])
        self.same((self.disk.page(4), self.disk.page(5)), ("page c 3 3 | a;", "torn, too"))
        self.disk.put_page(4, "torn")
        self.disk.put_page(5, "page c 3 3;")
        self.late(4, [])
        self.same((self.disk.page(4), self.disk.page(5)), ("page c 4 4;", "page c 3 3;"))

    def test_each_table(self):
        for table, slot in (("d", 0), ("b", 2), ("c", 4), ("a", 6)):
            self.late(1, [], table)
            self.same(self.newest_of(table), (slot, 1, 1, []))
            self.late(2, [], table)
            self.same(self.newest_of(table), (slot + 1, 2, 2, []))

    def test_a_fall_leaves_the_newest_page_as_it_was(self):
        text = "page c 9 9 | x | y;"
        for pages in (0, 1, 2, 3):
            for signs in range(len(text) + 2):
                self.disk = Disk()
                for last in range(pages):
                    self.late(last, [("a",)])
                before = self.newest_of("c")
                self.disk.fall_at(0, signs)
                self.refused(Fell, {}, self.late, 9, [("x",), ("y",)])
                self.same(self.disk.writes(), pages + 1)
                now = self.newest_of("c")
                if signs < len(text):
                    self.same(now, before)
                else:
                    self.same(now[1:], (9, 9, [("x",), ("y",)]))
                self.refused(Fell, {}, self.late, 10, [])
                self.same(self.newest_of("c"), now)
                self.disk.power()
                self.late(10, [("z",)])
                self.same(self.newest_of("c")[1:], (10, 10, [("z",)]))

    def test_rows_are_not_changed_or_shared(self):
        rows = [("a",), ("b",)]
        self.late(3, rows)
        self.same(rows, [("a",), ("b",)])
        rows.clear()
        self.same(self.newest_of("c"), (4, 3, 3, [("a",), ("b",)]))


class TrimTest(Case):
    """A log of the rows from `begin` on, a keep at each third number; two tables."""

    def setUp(self):
        self.disk = Disk()
        self.schema = schema_in(TOWNS)

    def log_from(self, begin, end):
        for number in range(begin, end):
            stuff = ("keep", number // 3) if number % 3 == 0 else ("set", "cities", ("a" * (number % 3),))
            self.disk.add_row(row_text(number, stuff))

    def paged(self, people, cities):
        for slot, table, last in ((0, "people", people), (2, "cities", cities)):
            if last is not None:
                self.disk.put_page(slot, f"page {table} {last} {last // 3};")

    def trimmed(self, many, wrote):
        rows, writes = self.disk.log_rows(), self.disk.writes()
        self.same(trim_log(self.disk, self.schema), many)
        self.same(self.disk.log_rows(), rows[many:])
        self.same(self.disk.writes(), writes + wrote)

    def test_up_to_the_least_last(self):
        for people, cities, many in ((3, 6, 3), (6, 3, 3), (6, 6, 6), (0, 6, 0), (9, 9, 9), (9, 3, 3)):
            self.disk = Disk()
            self.log_from(1, 10)
            self.paged(people, cities)
            self.trimmed(many, 1 if many else 0)
            self.trimmed(0, 0)

    def test_a_table_without_a_page(self):
        self.log_from(1, 10)
        self.paged(None, 9)
        self.trimmed(0, 0)
        self.paged(9, None)
        self.trimmed(9, 1)

    def test_by_the_newest_pages_alone(self):
        self.log_from(1, 13)
        self.paged(9, 9)
        self.disk.put_page(1, "page people 6 2;")
        self.disk.put_page(3, "page cities 12 4")
        self.trimmed(9, 1)

    def test_a_log_whose_head_was_trimmed(self):
        self.log_from(7, 13)
        self.paged(6, 9)
        self.trimmed(0, 0)
        self.disk.put_page(1, "page people 9 3;")
        self.trimmed(3, 1)
        self.disk.put_page(0, "page people 12 4;")
        self.disk.put_page(3, "page cities 12 4;")
        self.trimmed(3, 1)
        self.trimmed(0, 0)

    def test_one_row_alone(self):
        self.log_from(3, 4)
        self.paged(3, 3)
        self.trimmed(1, 1)

    def test_rows_that_say_nothing_stay(self):
        self.log_from(1, 4)
        self.disk.add_row("4 set cit")
        self.paged(3, 3)
        self.trimmed(3, 1)
        self.same(self.disk.log_rows(), ["4 set cit"])
        self.trimmed(0, 0)

    def test_a_log_without_rows(self):
        self.trimmed(0, 0)
        self.paged(0, 0)
        self.trimmed(0, 0)
        self.paged(9, 9)
        self.trimmed(0, 0)

    def test_falls(self):
        for signs, stay in ((0, 9), (1, 3), (7, 3)):
            self.disk = Disk()
            self.log_from(1, 10)
            self.paged(9, 6)
            self.disk.fall_at(0, signs)
            self.refused(Fell, {}, trim_log, self.disk, self.schema)
            self.same(len(self.disk.log_rows()), stay)

    def test_a_disk_that_is_down(self):
        self.log_from(1, 10)
        self.paged(9, None)
        self.disk.fall_at(0, 100)
        self.refused(Fell, {}, self.disk.put_page, 2, "page cities 6 2;")
        self.refused(Fell, {}, trim_log, self.disk, self.schema)
        self.same(len(self.disk.log_rows()), 9)
        self.disk.power()
        self.trimmed(6, 1)
        self.disk.fall_at(0, 0)
        self.refused(Fell, {}, self.disk.cut_head, 0)
        self.trimmed(0, 0)


if __name__ == "__main__":
    unittest.main()
