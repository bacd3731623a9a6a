"""Figures of tables [111], and [4], [5] of them."""

import random
import unittest

from helper import Case, ODD_THINGS, SIGNS, reader_of, rows_by, small_schema
from planstore.dealings import Dealings
from planstore.errors import NoColumn, NoMake, NoTable, Over
from planstore.figures import Figures
from planstore.makes import Makes
from planstore.readers import AtMake, Reader
from planstore.schema import schema_in

PEOPLE = [(-2, "oslo", 30), (1, "bergen", 9), (3, "oslo", 12), (5, "oslo", 30), (7, "rome", 30)]
CITIES = [("bergen", 9), ("oslo", 9), ("rome", 9)]


class SharedReader(Reader):
    """Tells the very lists that it has."""

    def __init__(self, rows):
        self.rows = rows

    def rows_of(self, table):
        return self.rows[table]


class FiguresCase(Case):
    def setUp(self):
        self.schema = small_schema()
        self.makes = Makes(self.schema, {"people": PEOPLE, "cities": CITIES})
        self.figures = Figures(self.schema, AtMake(self.makes, 0))


class FiguresTest(FiguresCase):
    def test_count(self):
        self.same(self.figures.count("people"), 5)
        self.same(self.figures.count("cities"), 3)

    def test_meeting_by_each_sign(self):
        for sign, many in (("=", 3), ("<>", 2), ("<", 2), ("<=", 5), (">", 0), (">=", 3)):
            self.same(self.figures.meeting("people", "age", sign, 30), many)
        for sign, many in (("=", 0), ("<>", 5), ("<", 1), ("<=", 1), (">", 4), (">=", 4)):
            self.same(self.figures.meeting("people", "id", sign, 0), many)
        for sign, many in (("=", 3), ("<>", 2), ("<", 1), ("<=", 4), (">", 1), (">=", 4)):
            self.same(self.figures.meeting("people", "city", sign, "oslo"), many)
        for sign, many in (("=", 0), ("<>", 3), ("<", 0), ("<=", 0), (">", 3), (">=", 3)):
            self.same(self.figures.meeting("cities", "name", sign, "a"), many)

    def test_between_each_kind_of_bounds(self):
        for low, high, many in ((None, None, 5), (9, None, 5), (10, None, 4), (None, 30, 5), (None, 29, 2), (9, 30, 5),
                                (10, 29, 1), (12, 12, 1), (13, 29, 0), (30, 30, 3), (30, 9, 0), (0, None, 5),
                                (None, 0, 0), (0, 0, 0)):
            self.same(self.figures.between("people", "age", low, high), many)
        for low, high, many in ((None, None, 5), ("oslo", None, 4), (None, "oslo", 4), ("oslo", "oslo", 3),
                                ("b", "c", 1), ("rome", "a", 0)):
            self.same(self.figures.between("people", "city", low, high), many)

    def test_the_most_of_one_value(self):
        self.same(self.figures.most_of("people", "id"), 1)
        self.same(self.figures.most_of("people", "city"), 3)
        self.same(self.figures.most_of("people", "age"), 3)
        self.same(self.figures.most_of("cities", "name"), 1)

    def test_one_value_in_all_rows(self):
        self.same(self.figures.most_of("cities", "size"), 3)
        self.same(self.figures.meeting("cities", "size", "=", 9), 3)
        self.same(self.figures.meeting("cities", "size", "<>", 9), 0)
        self.same(self.figures.between("cities", "size", 9, 9), 3)

    def test_a_table_without_rows(self):
        figures = Figures(self.schema, reader_of({}))
        for table, columns in self.schema.told()[0]:
            self.same(figures.count(table), 0)
            for column, kind in columns:
                value = 0 if kind == "number" else "a"
                self.same(figures.most_of(table, column), 0)
                self.same(figures.between(table, column, None, None), 0)
                for sign in SIGNS:
                    self.same(figures.meeting(table, column, sign, value), 0)

    def test_a_table_and_columns_called_alike(self):
        schema = schema_in("a a:number b:number | b a:word b:word")
        figures = Figures(schema, AtMake(Makes(schema, {"a": [(1, 2), (2, 2)], "b": [("x", "y")]}), 0))
        self.same([figures.count("a"), figures.count("b")], [2, 1])
        self.same([figures.most_of("a", "a"), figures.most_of("a", "b"), figures.most_of("b", "b")], [1, 2, 1])

    def test_figures_by_chance(self):
        chance = random.Random(3)
        for turn in range(60):
            rows = rows_by(chance)
            figures = Figures(self.schema, reader_of(rows))
            for table, columns in self.schema.told()[0]:
                self.same(figures.count(table), len(rows[table]))
                for place, (column, kind) in enumerate(columns):
                    cells = [row[place] for row in rows[table]]
                    low, high = (chance.randrange(9), chance.randrange(9)) if kind == "number" else chance.choices(
                        "abcdefg", k=2)
                    wanted = {"=": lambda x: x == low, "<>": lambda x: x != low, "<": lambda x: x < low,
                              "<=": lambda x: x <= low, ">": lambda x: x > low, ">=": lambda x: x >= low}
                    for sign in SIGNS:
                        self.same(figures.meeting(table, column, sign, low), len(list(filter(wanted[sign], cells))))
                    self.same(figures.between(table, column, low, high), len([x for x in cells if low <= x <= high]))
                    self.same(figures.most_of(table, column), max([cells.count(x) for x in cells], default=0))


class ReadingTest(FiguresCase):
    def all_told(self, figures):
        return [figures.count("people"), figures.count("cities"), figures.meeting("people", "age", "=", 30),
                figures.between("people", "id", 1, 5), figures.most_of("people", "city")]

    def test_a_dealing_with_writes_of_its_own(self):
        dealing = Dealings(self.makes).begin()
        dealing.put("people", (9, "rome", 30))
        dealing.cut("cities", "oslo")
        self.same(self.all_told(Figures(self.schema, dealing)), [6, 2, 4, 3, 3])
        self.same(self.all_told(self.figures), [5, 3, 3, 3, 3])

    def test_figures_stay_as_they_were_made(self):
        dealings = Dealings(self.makes)
        dealing = dealings.begin()
        figures = Figures(self.schema, dealing)
        told = self.all_told(figures)
        dealing.put("people", (9, "rome", 30))
        self.makes.add_make([("people", 7, None), ("cities", "oslo", None)])
        self.same(self.all_told(figures), told)
        dealings.broken(dealing)
        self.makes.sweep([])
        self.same(self.all_told(figures), told)
        self.same(self.all_told(self.figures), told)

    def test_lists_that_are_changed_behind(self):
        rows = {"people": list(PEOPLE), "cities": list(CITIES)}
        figures = Figures(self.schema, SharedReader(rows))
        told = self.all_told(figures)
        rows["people"].clear()
        rows["cities"].append(("paris", 9))
        self.same(self.all_told(figures), told)

    def test_a_reader_that_refuses(self):
        dealings = Dealings(self.makes)
        for end in (dealings.broken, dealings.keep_it):
            dealing = dealings.begin()
            end(dealing)
            self.refused(Over, {"number": dealing.number}, Figures, self.schema, dealing)
        reader = AtMake(self.makes, 0)
        self.makes.add_make([])
        self.makes.sweep([])
        self.refused(NoMake, {"number": 0}, Figures, self.schema, reader)
        self.refused(NoMake, {"number": 9}, Figures, self.schema, AtMake(self.makes, 9))


class WrongTest(FiguresCase):
    def calls(self):
        return [(self.figures.meeting, ("=", 1)), (self.figures.between, (None, None)), (self.figures.most_of, ())]

    def test_no_table(self):
        for table in ODD_THINGS + ["id", "people.id"]:
            self.refused(NoTable, {"table": table}, self.figures.count, table)
            for call, behind in self.calls():
                self.refused(NoTable, {"table": table}, call, table, "id", *behind)
                self.refused(NoTable, {"table": table}, call, table, "nosuch", *behind)
                self.refused(NoTable, {"table": table}, call, table, [], *behind)

    def test_no_column(self):
        for column in ODD_THINGS + ["people", "p.id", "people.id", "size"]:
            for call, behind in self.calls():
                self.refused(NoColumn, {"name": column}, call, "people", column, *behind)
        for call, behind in self.calls():
            self.refused(NoColumn, {"name": "id"}, call, "cities", "id", *behind)


if __name__ == "__main__":
    unittest.main()
