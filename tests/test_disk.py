"""The disk, its falls and its copies [41], [42], [43], and [4], [5] of them."""

import random
import unittest

from helper import Case, whole
from planstore.disk import Disk
from planstore.errors import Fell

SLOTS = range(8)


class DiskCase(Case):
    def setUp(self):
        self.disk = Disk()

    def fell(self, call, *args):
        self.refused(Fell, {}, call, *args)

    def rows_added(self, *texts):
        for text in texts:
            self.disk.add_row(text)


class WritesTest(DiskCase):
    def test_at_first(self):
        self.same(whole(self.disk), ([], [""] * 8, 0))

    def test_rows(self):
        self.assertIsNone(self.disk.add_row("one"))
        self.rows_added("two", "one", "", "a b;")
        self.same(self.disk.log_rows(), ["one", "two", "one", "", "a b;"])
        self.same(self.disk.writes(), 5)

    def test_pages(self):
        self.assertIsNone(self.disk.put_page(0, "first"))
        self.disk.put_page(7, "last")
        self.disk.put_page(0, "again")
        self.same([self.disk.page(slot) for slot in SLOTS], ["again", "", "", "", "", "", "", "last"])
        self.disk.put_page(7, "")
        self.same(whole(self.disk), ([], ["again"] + [""] * 7, 4))

    def test_long_texts(self):
        text = "x" * 60000
        self.disk.add_row(text)
        self.disk.put_page(3, text)
        self.same((self.disk.log_rows(), self.disk.page(3)), ([text], text))

    def test_cut_tail(self):
        self.rows_added("a", "b", "c", "d")
        for many, rows in ((9, "abcd"), (4, "abcd"), (3, "abc"), (1, "a"), (0, ""), (0, ""), (2, "")):
            writes = self.disk.writes()
            self.assertIsNone(self.disk.cut_tail(many))
            self.same((self.disk.log_rows(), self.disk.writes()), (list(rows), writes + 1))

    def test_cut_head(self):
        self.rows_added("a", "b", "c", "d")
        for many, rows in ((0, "abcd"), (1, "bcd"), (2, "d"), (9, ""), (0, ""), (3, "")):
            writes = self.disk.writes()
            self.assertIsNone(self.disk.cut_head(many))
            self.same((self.disk.log_rows(), self.disk.writes()), (list(rows), writes + 1))

    def test_cuts_of_just_all_rows(self):
        self.rows_added("a", "b", "c", "d")
        self.disk.cut_head(4)
        self.same(self.disk.log_rows(), [])
        self.rows_added("e", "f")
        self.same(self.disk.log_rows(), ["e", "f"])

    def test_cuts_leave_the_pages(self):
        self.disk.put_page(2, "page")
        self.rows_added("a", "b")
        self.disk.cut_tail(0)
        self.disk.cut_head(5)
        self.same(whole(self.disk), ([], ["", "", "page", "", "", "", "", ""], 5))

    def test_what_is_told_is_the_askers_own(self):
        self.rows_added("a", "b")
        self.disk.log_rows().clear()
        self.disk.log_rows().append("c")
        self.same(self.disk.log_rows(), ["a", "b"])
        told = self.disk.log_rows()
        self.rows_added("c")
        self.disk.cut_head(1)
        self.same(told, ["a", "b"])

    def test_two_disks_share_nothing(self):
        other = Disk()
        self.rows_added("a")
        self.disk.put_page(0, "x")
        self.disk.fall_at(0, 0)
        self.same(whole(other), ([], [""] * 8, 0))
        other.add_row("b")
        self.same((self.disk.log_rows(), other.log_rows()), (["a"], ["b"]))


class FallTest(DiskCase):
    def test_a_row_by_signs(self):
        for signs, rows in ((0, ["x"]), (1, ["x", "r"]), (2, ["x", "ro"]), (3, ["x", "row"]), (4, ["x", "row"]),
                            (10 ** 9, ["x", "row"])):
            self.setUp()
            self.rows_added("x")
            self.assertIsNone(self.disk.fall_at(0, signs))
            self.fell(self.disk.add_row, "row")
            self.same((self.disk.log_rows(), self.disk.writes()), (rows, 2))

    def test_a_row_without_signs_is_no_row(self):
        for signs in (0, 1, 5):
            self.setUp()
            self.disk.fall_at(0, signs)
            self.fell(self.disk.add_row, "")
            self.same((self.disk.log_rows(), self.disk.writes()), ([], 1))

    def test_a_page_by_signs(self):
        for signs, page in ((0, ""), (1, "p"), (3, "pag"), (4, "page"), (5, "page"), (10 ** 9, "page")):
            self.setUp()
            self.disk.put_page(5, "older page")
            self.disk.put_page(4, "other")
            self.disk.fall_at(0, signs)
            self.fell(self.disk.put_page, 5, "page")
            self.same(whole(self.disk), ([], ["", "", "", "", "other", page, "", ""], 3))

    def test_cuts_by_signs(self):
        for signs, done in ((0, False), (1, True), (2, True), (10 ** 9, True)):
            for cut, many, rows in (("cut_tail", 1, ["a"]), ("cut_head", 1, ["b", "c"]), ("cut_tail", 0, []),
                                    ("cut_head", 5, []), ("cut_tail", 5, ["a", "b", "c"]),
                                    ("cut_head", 0, ["a", "b", "c"])):
                self.setUp()
                self.rows_added("a", "b", "c")
                self.disk.fall_at(0, signs)
                self.fell(getattr(self.disk, cut), many)
                self.same((self.disk.log_rows(), self.disk.writes()), (rows if done else ["a", "b", "c"], 4))

    def test_so_many_more_come_as_they_should(self):
        self.rows_added("ahead")
        self.disk.fall_at(4, 2)
        self.rows_added("one")
        self.disk.put_page(1, "page")
        self.disk.cut_tail(9)
        self.disk.cut_head(1)
        self.same(whole(self.disk), (["one"], ["", "page"] + [""] * 6, 5))
        self.fell(self.disk.add_row, "two")
        self.same(whole(self.disk), (["one", "tw"], ["", "page"] + [""] * 6, 6))

    def test_a_disk_that_is_down(self):
        self.rows_added("a", "b")
        self.disk.fall_at(0, 0)
        self.fell(self.disk.put_page, 0, "x")
        before = whole(self.disk)
        for again in range(3):
            self.fell(self.disk.add_row, "c")
            self.fell(self.disk.put_page, 0, "y")
            self.fell(self.disk.cut_tail, 0)
            self.fell(self.disk.cut_head, 1)
            self.same(whole(self.disk), before)
        self.same(before, (["a", "b"], [""] * 8, 3))

    def test_asking_is_no_write(self):
        self.disk.fall_at(1, 0)
        for again in range(5):
            whole(self.disk)
            self.disk.copied()
        self.rows_added("a")
        self.fell(self.disk.add_row, "b")

    def test_the_last_telling_holds(self):
        self.disk.fall_at(0, 5)
        self.disk.fall_at(2, 1)
        self.rows_added("aa", "bb")
        self.fell(self.disk.add_row, "cc")
        self.same((self.disk.log_rows(), self.disk.writes()), (["aa", "bb", "c"], 3))

    def test_a_later_telling_counts_from_itself(self):
        self.disk.fall_at(3, 5)
        self.rows_added("aa", "bb")
        self.disk.fall_at(1, 0)
        self.rows_added("cc")
        self.fell(self.disk.add_row, "dd")
        self.same(self.disk.log_rows(), ["aa", "bb", "cc"])

    def test_a_sooner_telling_in_the_first_ones_stead(self):
        self.disk.fall_at(5, 1)
        self.disk.fall_at(0, 2)
        self.fell(self.disk.add_row, "abc")
        self.same(self.disk.log_rows(), ["ab"])
        self.disk.power()
        self.rows_added(*"cdefghij")
        self.same(self.disk.writes(), 9)

    def test_it_holds_for_one_fall(self):
        self.disk.fall_at(0, 1)
        self.fell(self.disk.add_row, "abc")
        self.disk.power()
        self.rows_added("b", "c", "d")
        self.same((self.disk.log_rows(), self.disk.writes()), (["a", "b", "c", "d"], 4))


class PowerTest(DiskCase):
    def test_what_the_disk_has_stays(self):
        self.rows_added("one", "two")
        self.disk.put_page(6, "page")
        self.disk.fall_at(0, 2)
        self.fell(self.disk.add_row, "three")
        before = whole(self.disk)
        self.assertIsNone(self.disk.power())
        self.same(whole(self.disk), before)
        self.rows_added("four")
        self.same(whole(self.disk), (["one", "two", "th", "four"], [""] * 6 + ["page", ""], 5))

    def test_while_the_disk_is_up(self):
        self.rows_added("a")
        self.disk.fall_at(1, 0)
        self.disk.power()
        self.rows_added("b", "c", "d")
        self.same((self.disk.log_rows(), self.disk.writes()), (["a", "b", "c", "d"], 4))

    def test_a_fall_told_while_down_is_told_no_more(self):
        self.disk.fall_at(0, 0)
        self.fell(self.disk.add_row, "a")
        self.disk.fall_at(0, 1)
        self.fell(self.disk.add_row, "a")
        self.same((self.disk.log_rows(), self.disk.writes()), ([], 1))
        self.disk.power()
        self.rows_added("b", "c")
        self.same(self.disk.log_rows(), ["b", "c"])

    def test_falls_again_when_told_anew(self):
        for sign in "ab":
            self.disk.fall_at(0, 1)
            self.fell(self.disk.add_row, sign * 3)
            self.fell(self.disk.add_row, "x")
            self.disk.power()
        self.same((self.disk.log_rows(), self.disk.writes()), (["a", "b"], 2))


class CopiedTest(DiskCase):
    def test_the_same_rows_and_pages_and_no_writes(self):
        self.rows_added("a", "b")
        self.disk.put_page(3, "page")
        other = self.disk.copied()
        self.assertIsInstance(other, Disk)
        self.same(whole(other), (["a", "b"], ["", "", "", "page", "", "", "", ""], 0))
        self.same(whole(self.disk), (["a", "b"], ["", "", "", "page", "", "", "", ""], 3))

    def test_each_apart(self):
        self.rows_added("a", "b")
        other = self.disk.copied()
        self.disk.add_row("c")
        self.disk.put_page(0, "x")
        self.same(whole(other), (["a", "b"], [""] * 8, 0))
        other.cut_tail(1)
        other.put_page(1, "y")
        self.same(whole(self.disk), (["a", "b", "c"], ["x"] + [""] * 7, 4))
        self.same(whole(other), (["a"], ["", "y"] + [""] * 6, 2))

    def test_no_fall_is_told(self):
        self.disk.fall_at(0, 0)
        other = self.disk.copied()
        other.add_row("a")
        self.same(whole(other), (["a"], [""] * 8, 1))
        self.fell(self.disk.add_row, "b")

    def test_a_copy_of_one_that_is_down_is_up(self):
        self.disk.fall_at(0, 1)
        self.fell(self.disk.add_row, "abc")
        other = self.disk.copied()
        other.add_row("b")
        self.same(whole(other), (["a", "b"], [""] * 8, 1))
        self.fell(self.disk.add_row, "c")
        other.fall_at(0, 0)
        self.fell(other.add_row, "c")
        self.disk.power()
        self.disk.add_row("d")
        self.fell(other.add_row, "d")


class WovenTest(DiskCase):
    """Weaves of writes, falls and power, each write counted anew from the words of the document."""

    def written(self, state, deed, place, text):
        log, pages = state
        if deed == "add_row":
            return (log + ([text] if text else []), pages)
        if deed == "put_page":
            return (log, pages[:place] + [text] + pages[place + 1:])
        return (log[:place], pages) if deed == "cut_tail" else (log[place:], pages)

    def weave(self, chance):
        state = ([], [""] * 8)
        came, fall, down = 0, None, False
        for step in range(60):
            deed = chance.choice(["add_row", "add_row", "put_page", "cut_tail", "cut_head", "fall_at", "power"])
            place, text = chance.randrange(8), chance.choice(["a", "bcd", "efghijk"])
            if deed == "fall_at":
                fall = [chance.randrange(4), chance.randrange(5)]
                self.disk.fall_at(*fall)
                continue
            if deed == "power":
                fall, down = None, False
                self.disk.power()
                continue
            args = {"add_row": (text,), "put_page": (place, text)}.get(deed, (place,))
            call = getattr(self.disk, deed)
            if down:
                self.fell(call, *args)
            elif fall and fall[0] == 0:
                came, down = came + 1, True
                if fall[1] or deed == "put_page":
                    state = self.written(state, deed, place, text[:fall[1]])
                fall = None
                self.fell(call, *args)
            else:
                came += 1
                fall = [fall[0] - 1, fall[1]] if fall else None
                state = self.written(state, deed, place, text)
                call(*args)
            self.same(whole(self.disk), (state[0], state[1], came))

    def test_weaves(self):
        for seed in range(60):
            self.setUp()
            self.weave(random.Random(seed))


if __name__ == "__main__":
    unittest.main()
