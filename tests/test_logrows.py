"""Rows of the log: their texts, and what texts say [44], [45]."""

import unittest

from helper import Case, ODD_THINGS, small_schema
from planstore.logrows import kept_many_rows, row_in, row_text, whole_rows
from planstore.schema import Schema

SCHEMA = small_schema()
BOUND = 10 ** 9
SAID = [
    ((1, ("set", "people", (7, "rome", 30))), "1 set people 7 rome 30;"),
    ((12, ("set", "people", (-7, "a", 0))), "12 set people -7 a 0;"),
    ((BOUND, ("set", "people", (-BOUND, "abcdefgh", BOUND))), "1000000000 set people -1000000000 abcdefgh 1000000000;"),
    ((3, ("set", "cities", ("set", 1))), "3 set cities set 1;"),
    ((13, ("cut", "people", 7)), "13 cut people 7;"),
    ((14, ("cut", "people", -BOUND)), "14 cut people -1000000000;"),
    ((15, ("cut", "cities", "rome")), "15 cut cities rome;"),
    ((14, ("keep", 3)), "14 keep 3;"),
    ((1, ("keep", 1)), "1 keep 1;"),
    ((BOUND, ("keep", BOUND)), "1000000000 keep 1000000000;"),
]
NOTHING = [
    "", ";", " ;", "1", "1;", "1 ;", "1 set", "1 set;", "1 set people;", "1 set people 7;", "1 set people 7 rome;",
    "1 set people 7 rome 30 1;", "1 set people 7 rome 30", "1 set people rome 7 30;", "1 set nosuch 7 rome 30;",
    "1 set  people 7 rome 30;", "1 set people 7 rome 30 ;", " 1 set people 7 rome 30;", "1 set people 7 rome 30;;",
    "1  set people 7 rome 30;", "1 set people 7 Rome 30;", "1 set people 07 rome 30;", "1 set people -0 rome 30;",
    "1 set people +7 rome 30;", "1 set people 7 ninelette 30;", "1 set people 1000000001 rome 30;",
    "1 set people 7 rome 30;\n", "\n1 set people 7 rome 30;", "1\nset people 7 rome 30;", "1 set people 7 rome\t30;",
    "1 set people 7  30;", "1 Set people 7 rome 30;", "1 put people 7 rome 30;", "set people 7 rome 30;",
    "0 set people 7 rome 30;", "-1 set people 7 rome 30;", "01 set people 7 rome 30;", "+1 set people 7 rome 30;",
    "1000000001 set people 7 rome 30;", "a set people 7 rome 30;", "1 set people '7' rome 30;",
    "1 set people 7 rome 30; ", "1 set people 7 rome 30;1 keep 1;", "1 set people 7; rome 30;", "1, set people 7 rome 30;",
    "1 cut;", "1 cut people;", "1 cut people rome;", "1 cut cities 7;", "1 cut cities Rome;", "1 cut people 7 rome;",
    "1 cut people 7 rome 30;", "1 cut nosuch 7;", "1 cut people ;", "1 cut cities ;", "0 cut people 7;",
    "1 cut people 1000000001;", "1 cut people 07;", "1 keep;", "1 keep ;", "1 keep 0;", "1 keep -1;", "1 keep 01;",
    "1 keep 1000000001;", "1 keep 1 1;", "1 keep people;", "1 keep people 7;", "1 keep  1;", "0 keep 1;", "1 keep 1.;",
    "keep 1;", "1 people 7;", "1 1 1;", "1 keep \u0663;", "\u0663 keep 1;", "1 keep " + "9" * 5000 + ";",
    "9" * 5000 + " keep 1;",
]


class RowTextTest(Case):
    def test_written(self):
        for said, text in SAID:
            self.same(row_text(said[0], said[1]), text)

    def test_as_the_document_has_it(self):
        self.same(row_text(12, ("set", "people", (7, "rome"))), "12 set people 7 rome;")
        schema = Schema([("people", [("id", "number"), ("city", "word")])])
        self.same(row_in(schema, "12 set people 7 rome;"), (12, ("set", "people", (7, "rome"))))


class RowInTest(Case):
    def test_read_back(self):
        for said, text in SAID:
            self.same(row_in(SCHEMA, text), said)

    def test_tables_called_like_the_words(self):
        schema = Schema([("keep", [("set", "number")]), ("cut", [("keep", "word")]), ("set", [("cut", "word")])])
        for stuff in (("set", "keep", (1,)), ("cut", "keep", 1), ("set", "cut", ("keep",)), ("cut", "cut", "cut"),
                      ("set", "set", ("set",)), ("cut", "set", "keep"), ("keep", 1)):
            self.same(row_in(schema, row_text(5, stuff)), (5, stuff))
        self.assertIsNone(row_in(schema, "5 keep keep;"))
        self.assertIsNone(row_in(schema, "5 keep set 1;"))

    def test_what_says_nothing(self):
        for text in NOTHING:
            self.assertIsNone(row_in(SCHEMA, text), text[:40])

    def test_it_hangs_on_the_schema(self):
        other = Schema([("people", [("id", "word"), ("city", "word")])])
        self.assertIsNone(row_in(other, "1 set people 7 rome 30;"))
        self.assertIsNone(row_in(other, "1 cut people 7;"))
        self.same(row_in(other, "1 cut people rome;"), (1, ("cut", "people", "rome")))
        self.assertIsNone(row_in(other, "1 cut cities rome;"))

    def test_each_beginning(self):
        for said, text in SAID:
            for many in range(len(text)):
                self.assertIsNone(row_in(SCHEMA, text[:many]), text[:many])

    def test_one_sign_more(self):
        for said, text in SAID:
            for sign in [chr(number) for number in range(32, 127)] + ["\n", "\t", "\u00e4"]:
                self.assertIsNone(row_in(SCHEMA, text + sign), text + sign)
                if sign not in "123456789":
                    self.assertIsNone(row_in(SCHEMA, sign + text), sign + text)

    def test_other_things(self):
        text = SAID[0][1]
        for thing in ODD_THINGS + [text.encode(), [text], (text,), {text: text}, SAID[0][0], list(SAID[0][0]), 1.5]:
            self.assertIsNone(row_in(SCHEMA, thing))


class WholeRowsTest(Case):
    def setUp(self):
        self.texts = ["4 set people 7 rome 30;", "5 keep 2;", "6 cut people 7;", "7 cut cities rome;", "8 keep 3;",
                      "9 set cities oslo 1;"]
        self.said = [(4, ("set", "people", (7, "rome", 30))), (5, ("keep", 2)), (6, ("cut", "people", 7)),
                     (7, ("cut", "cities", "rome")), (8, ("keep", 3)), (9, ("set", "cities", ("oslo", 1)))]

    def check(self, texts, said, kept):
        before = list(texts)
        self.same(whole_rows(SCHEMA, texts), said)
        self.same(kept_many_rows(SCHEMA, texts), kept)
        self.assertEqual(texts, before)

    def test_up_to_each_row(self):
        for many, kept in enumerate((0, 0, 2, 2, 2, 5, 5)):
            self.check(self.texts[:many], self.said[:many], kept)

    def test_the_first_may_have_any_number(self):
        for many, kept in enumerate((5, 4, 3, 2, 1, 0, 0)):
            self.check(self.texts[many:], self.said[many:], kept)

    def test_up_to_one_that_says_nothing(self):
        for place in range(len(self.texts)):
            for wrong in ("", "x", self.texts[place][:-1], self.texts[place] + " "):
                texts = self.texts[:place] + [wrong] + self.texts[place + 1:]
                self.check(texts, self.said[:place], (0, 0, 2, 2, 2, 5)[place])

    def test_numbers_go_on_by_one(self):
        for wrong in ("5 keep 9;", "4 keep 9;", "7 keep 9;", "1 keep 9;", "1000000000 keep 9;"):
            texts = self.texts[:2] + [wrong] + self.texts[2:]
            self.check(texts, self.said[:2], 2)
        self.check([self.texts[0], self.texts[2]], self.said[:1], 0)
        self.check([self.texts[1], self.texts[0]], self.said[1:2], 1)
        self.check([self.texts[1], self.texts[1]], self.said[1:2], 1)

    def test_a_row_behind_that_one_is_none_though_it_would_go_on(self):
        self.check([self.texts[0], "x", self.texts[1]], self.said[:1], 0)
        self.check(["x"] + self.texts, [], 0)

    def test_how_many_keeps_say_is_not_looked_at(self):
        self.check(["1 keep 9;", "2 keep 9;", "3 keep 1;"], [(1, ("keep", 9)), (2, ("keep", 9)), (3, ("keep", 1))], 3)

    def test_what_is_told_is_the_askers_own(self):
        whole_rows(SCHEMA, self.texts).clear()
        self.check(self.texts, self.said, 5)


if __name__ == "__main__":
    unittest.main()
