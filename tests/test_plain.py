"""The plain answer of a question [81] to [85], and [4], [5], [8] of it."""

import functools
import random
import unittest

from helper import Case, Growth, SIGNS, small_schema
from planstore.asking import read_question
from planstore.conditions import Compare
from planstore.dealings import Dealings
from planstore.errors import Alike, NoColumn, NoMake, NoTable, Over, WrongKind
from planstore.makes import Makes
from planstore.plain import by_sort, plain_answer, rows_after
from planstore.readers import AtMake, Reader
from planstore.retold import tree_of
from planstore.schema import schema_in
from planstore.trees import Choose, First, Group, Keep, Product, Scan, Sort

PEOPLE = [(-2, "oslo", 30), (1, "bergen", 9), (3, "oslo", 12), (5, "oslo", 30), (7, "rome", 30)]
CITIES = [("bergen", 3), ("oslo", 9), ("paris", 9), ("rome", 1)]
ROWS = {"people": PEOPLE, "cities": CITIES}
P = Scan("people", "p")
C = Scan("cities", "c")
P_NAMES = ["p.id", "p.city", "p.age"]
C_NAMES = ["c.name", "c.size"]


class FixedReader(Reader):
    """Tells the rows of a dict, and which tables were read."""

    def __init__(self, rows):
        self.rows = rows
        self.read = []

    def rows_of(self, table):
        self.read.append(table)
        if table not in self.rows:
            raise NoTable(table)
        return list(self.rows[table])


def stands(sign, one, other):
    return {"=": one == other, "<>": one != other, "<": one < other, "<=": one <= other, ">": one > other,
            ">=": one >= other}[sign]


def holds(cond, row):
    """Whether a told condition holds of a row, a dict."""
    if cond[0] == "compare":
        return stands(cond[2], row[cond[1]], row[cond[3][1]] if cond[3][0] == "column" else cond[3][1])
    if cond[0] == "not":
        return not holds(cond[1], row)
    both = (holds(cond[1], row), holds(cond[2], row))
    return all(both) if cond[0] == "and" else any(both)


def keys_order(by):
    def order(one, other):
        for name, down in by:
            if one[name] != other[name]:
                return (-1 if one[name] < other[name] else 1) * (-1 if down else 1)
        one, other = tuple(one.values()), tuple(other.values())
        return (one > other) - (one < other)
    return functools.cmp_to_key(order)


def summed(word, name, rows):
    values = [row[name] for row in rows] if name else []
    return {"count": len, "sum": lambda them: sum(values), "least": lambda them: min(values),
            "greatest": lambda them: max(values)}[word](rows)


def answered(told, rows):
    """The rows of a told tree as a list of dicts, reckoned once more, apart from the program."""
    if told[0] == "scan":
        names = {"people": ("id", "city", "age"), "cities": ("name", "size")}[told[1]]
        made = [dict(zip([f"{told[2]}.{name}" for name in names], row)) for row in rows[told[1]]]
    elif told[0] == "product":
        other = answered(told[2], rows)
        made = [{**one, **two} for one in answered(told[1], rows) for two in other]
    elif told[0] == "choose":
        made = [row for row in answered(told[2], rows) if holds(told[1], row)]
    elif told[0] == "keep":
        made = [{name: row[name] for name in told[1]} for row in answered(told[2], rows)]
    elif told[0] == "group":
        part = answered(told[3], rows)
        made = []
        for key in {tuple(row[name] for name in told[1]) for row in part}:
            alike = [row for row in part if tuple(row[name] for name in told[1]) == key]
            sums = {new: summed(word, name, alike) for word, name, new in told[2]}
            made.append({**dict(zip(told[1], key)), **sums})
    elif told[0] == "sort":
        return sorted(answered(told[2], rows), key=keys_order(told[1]))
    else:
        return answered(told[2], rows)[:told[1]]
    return sorted(made, key=lambda row: tuple(row.values()))


class PlainCase(Case):
    def setUp(self):
        self.schema = small_schema()
        self.makes = Makes(self.schema, ROWS)
        self.reader = AtMake(self.makes, 0)

    def answers(self, tree, names, rows):
        if isinstance(tree, str):
            tree = read_question(tree)
        told = tree.told()
        self.same(plain_answer(tree, self.schema, self.reader), (names, rows))
        self.same(tree.told(), told)


class NodesTest(PlainCase):
    def test_scan(self):
        self.answers(P, P_NAMES, PEOPLE)
        self.answers(C, C_NAMES, CITIES)

    def test_choose(self):
        self.answers("table people as p | choose p.age = 30", P_NAMES, [PEOPLE[0], PEOPLE[3], PEOPLE[4]])
        self.answers("table people as p | choose p.age = 30 and not p.city = 'oslo'", P_NAMES, [PEOPLE[4]])
        self.answers("table people as p | choose p.age = 31", P_NAMES, [])
        self.answers("table people as p | choose p.id > p.age or p.city > 'p'", P_NAMES, [PEOPLE[4]])
        self.answers("table people as p | choose p.id < p.age", P_NAMES, PEOPLE)

    def test_keep(self):
        self.answers("table people as p | keep p.city", ["p.city"],
                     [("bergen",), ("oslo",), ("oslo",), ("oslo",), ("rome",)])
        self.answers("table people as p | keep p.age p.id", ["p.age", "p.id"],
                     [(9, 1), (12, 3), (30, -2), (30, 5), (30, 7)])
        self.answers("table people as p | choose p.id = 9 | keep p.age", ["p.age"], [])

    def test_product(self):
        both = "( table people as p | keep p.city ) | with ( table cities as c | keep c.size )"
        sizes = [1, 3, 9, 9]
        self.answers(both, ["p.city", "c.size"], [(city, size) for city in ("bergen",) for size in sizes]
                     + [("oslo", 1)] * 3 + [("oslo", 3)] * 3 + [("oslo", 9)] * 6 + [("rome", size) for size in sizes])
        self.answers("table cities as c | with table people as p", C_NAMES + P_NAMES,
                     [one + other for one in CITIES for other in PEOPLE])
        self.answers("table cities as c | with ( table people as p | choose p.id = 99 )", C_NAMES + P_NAMES, [])
        self.answers("table people as p | choose p.id = 99 | with table cities as c", P_NAMES + C_NAMES, [])

    def test_join(self):
        self.answers("table people as p | join table cities as c on p.city = c.name | keep p.id c.size",
                     ["p.id", "c.size"],
                     [(-2, 9), (1, 3), (3, 9), (5, 9), (7, 1)])

    def test_group(self):
        self.answers("table people as p | group p.city : count n , sum p.age s , least p.id a , greatest p.id b",
                     ["p.city", "n", "s", "a", "b"],
                     [("bergen", 1, 9, 1, 1), ("oslo", 3, 72, -2, 5), ("rome", 1, 30, 7, 7)])
        self.answers("table people as p | group p.age p.city :", ["p.age", "p.city"],
                     [(9, "bergen"), (12, "oslo"), (30, "oslo"), (30, "rome")])
        self.answers("table people as p | group : count n , least p.city a , greatest p.city b , sum p.id s",
                     ["n", "a", "b", "s"],
                     [(5, "bergen", "rome", 14)])
        self.answers("table people as p | group p.city : count n | group n : count m", ["n", "m"], [(1, 2), (3, 1)])

    def test_group_of_a_part_without_rows(self):
        none = "table people as p | choose p.id = 99 | group "
        self.answers(none + "p.city :", ["p.city"], [])
        self.answers(none + "p.city : count n , sum p.age s", ["p.city", "n", "s"], [])
        self.answers(none + ": count n", ["n"], [])
        self.answers(none + ": least p.id a , greatest p.city b , sum p.id s", ["a", "b", "s"], [])

    def test_group_counts_alike_rows(self):
        self.answers("table people as p | keep p.age | group p.age : count n , sum p.age s", ["p.age", "n", "s"],
                     [(9, 1, 9), (12, 1, 12), (30, 3, 90)])

    def test_sums_beyond_the_numbers_of_tables(self):
        self.makes = Makes(self.schema, {"people": [(key, "a", 10 ** 9) for key in range(3)]})
        self.reader = AtMake(self.makes, 0)
        self.answers("table people as p | group : sum p.age s", ["s"], [(3 * 10 ** 9,)])
        self.answers("table people as p | group : sum p.age s | choose s > 1000000000", ["s"], [(3 * 10 ** 9,)])

    def test_sort(self):
        self.answers("table people as p | sort p.age", P_NAMES, [PEOPLE[1], PEOPLE[2], PEOPLE[0], PEOPLE[3], PEOPLE[4]])
        self.answers("table people as p | sort p.age down", P_NAMES,
                     [PEOPLE[0], PEOPLE[3], PEOPLE[4], PEOPLE[2], PEOPLE[1]])
        self.answers("table people as p | sort p.city , p.age down", P_NAMES,
                     [PEOPLE[1], PEOPLE[0], PEOPLE[3], PEOPLE[2], PEOPLE[4]])
        self.answers("table people as p | sort p.city down , p.age", P_NAMES,
                     [PEOPLE[4], PEOPLE[2], PEOPLE[0], PEOPLE[3], PEOPLE[1]])
        self.answers("table people as p | sort p.age down , p.age , p.id down", P_NAMES,
                     [PEOPLE[4], PEOPLE[3], PEOPLE[0], PEOPLE[2], PEOPLE[1]])

    def test_first(self):
        for many in (0, 1, 3, 5, 6, 1000):
            self.answers(First(many, P), P_NAMES, PEOPLE[:many])
        self.answers("table people as p | sort p.age down | first 2", P_NAMES, [PEOPLE[0], PEOPLE[3]])
        self.answers("table people as p | sort p.age | first 2 | first 1", P_NAMES, [PEOPLE[1]])
        self.answers("table people as p | sort p.id down | first 4 | first 1000", P_NAMES, PEOPLE[:0:-1])


class OrderTest(PlainCase):
    def test_a_sort_counts_only_right_beneath(self):
        down = "table people as p | sort p.id down"
        self.answers(down, P_NAMES, PEOPLE[::-1])
        self.answers(down + " | first 2", P_NAMES, [PEOPLE[4], PEOPLE[3]])
        self.answers(down + " | choose p.id > 0", P_NAMES, PEOPLE[1:])
        self.answers(down + " | keep p.id", ["p.id"], [(row[0],) for row in PEOPLE])
        self.answers(down + " | keep p.id | first 1", ["p.id"], [(-2,)])
        self.answers(down + " | choose p.id > 0 | first 1", P_NAMES, [PEOPLE[1]])
        self.answers(down + " | group p.id :", ["p.id"], [(row[0],) for row in PEOPLE])
        self.answers(down + " | with ( table cities as c | sort c.name down ) | keep p.id c.name", ["p.id", "c.name"],
                     [(row[0], city[0]) for row in PEOPLE for city in CITIES])
        self.answers(down + " | with ( table cities as c | sort c.name down | first 1 )", P_NAMES + C_NAMES,
                     [row + CITIES[3] for row in PEOPLE])

    def test_a_sort_over_a_sort(self):
        # rows alike in the keys rise as tuples, whatever order they had beneath
        self.answers("table people as p | sort p.id down | sort p.age", P_NAMES,
                     [PEOPLE[1], PEOPLE[2], PEOPLE[0], PEOPLE[3], PEOPLE[4]])
        self.answers("table people as p | sort p.id down | first 3 | sort p.age", P_NAMES,
                     [PEOPLE[2], PEOPLE[3], PEOPLE[4]])

    def test_a_first_beneath_other_nodes(self):
        self.answers("table people as p | sort p.id down | first 2 | choose p.id > 0", P_NAMES, [PEOPLE[3], PEOPLE[4]])
        self.answers("table people as p | sort p.age | first 2 | keep p.id", ["p.id"], [(1,), (3,)])
        self.answers("table people as p | sort p.age | first 3 | group p.city : count n", ["p.city", "n"],
                     [("bergen", 1), ("oslo", 2)])
        self.answers("table people as p | sort p.age down | first 4 | sort p.id down", P_NAMES,
                     [PEOPLE[4], PEOPLE[3], PEOPLE[2], PEOPLE[0]])

    def test_rows_of_a_scan_rise_however_the_reader_tells_them(self):
        self.reader = FixedReader({"people": PEOPLE[::-1], "cities": CITIES[2:] + CITIES[:2]})
        self.answers(P, P_NAMES, PEOPLE)
        self.answers(C, C_NAMES, CITIES)


class ChanceTest(PlainCase):
    def test_trees_by_chance(self):
        chance = random.Random(8)
        many = 0
        for turn in range(500):
            tree = Growth(chance).tree(7)
            wanted = answered(tree.told(), ROWS)
            names, rows = plain_answer(tree, self.schema, self.reader)
            self.same(names, [name for name, kind in tree.columns_told(self.schema)])
            self.same(rows, [tuple(row[name] for name in names) for row in wanted])
            self.same(plain_answer(tree_of(tree.told()), self.schema, self.reader), (names, rows))
            many += len(rows)
        self.assertGreater(many, 5000)

    def test_on_other_tables(self):
        chance = random.Random(6)
        for turn in range(200):
            rows = {"people": [(key, chance.choice("ab"),
                                chance.randrange(3)) for key in sorted(chance.sample(range(9), chance.randrange(6)))],
                    "cities": [(key,
                                chance.randrange(3)) for key in sorted(chance.sample("abcdef", chance.randrange(4)))]}
            tree = Growth(chance, 3).tree(6)
            names, got = plain_answer(tree, self.schema, AtMake(Makes(self.schema, rows), 0))
            self.same(got, [tuple(row[name] for name in names) for row in answered(tree.told(), rows)])

    def test_a_great_product(self):
        rows = {"people": [(key, "a", key % 7) for key in range(60)],
                "cities": [("c" + "abcdefghijklmnopqrstuvwxyz"[key // 10]
                + "abcdefghij"[key % 10], key) for key in range(60)]}
        self.reader = AtMake(Makes(self.schema, rows), 0)
        tree = read_question("table people as p | with table cities as c | with ( table people as q | first 5 ) "
                             "| choose p.age = q.age | group p.age : count n")
        self.answers(tree, ["p.age", "n"], [(0, 540), (1, 540), (2, 540), (3, 540), (4, 480)])


class ReadersTest(PlainCase):
    def test_at_a_make(self):
        self.makes.add_make([("people", 7, None), ("people", 9, (9, "paris", 1))])
        self.answers(P, P_NAMES, PEOPLE)
        self.reader = AtMake(self.makes, 1)
        self.answers(P, P_NAMES, PEOPLE[:4] + [(9, "paris", 1)])

    def test_in_a_dealing_with_its_own_writes(self):
        dealings = Dealings(self.makes)
        dealing = dealings.begin()
        dealing.put("people", (9, "paris", 1))
        dealing.put("people", (1, "rome", 40))
        dealing.cut("people", -2)
        other = dealings.begin()
        other.put("people", (2, "rome", 4))
        dealings.keep_it(other)
        self.reader = dealing
        self.answers("table people as p | keep p.id p.city", ["p.id", "p.city"],
                     [(1, "rome"), (3, "oslo"), (5, "oslo"), (7, "rome"), (9, "paris")])
        self.answers("table people as p | join table cities as c on p.city = c.name "
                     "| group c.name : count n , sum p.age s",
                     ["c.name", "n", "s"], [("oslo", 2, 42), ("paris", 1, 1), ("rome", 2, 70)])
        dealing.cut("people", 9)
        self.answers("table people as p | group : count n", ["n"], [(4,)])

    def ended(self):
        dealings = Dealings(self.makes)
        dealing = dealings.begin()
        dealings.broken(dealing)
        return dealing

    def make_swept(self):
        """The make that the reader reads is told no more."""
        self.makes.add_make([])
        self.makes.sweep([])

    def test_what_a_reader_refuses(self):
        dealing = self.ended()
        self.make_swept()
        for text in ("table people as p", "table people as p | first 0",
                     "table people as p | with table cities as c | first 0",
                     "table people as p | choose p.id < p.id"):
            tree = read_question(text)
            self.refused(Over, {"number": 1}, plain_answer, tree, self.schema, dealing)
            self.refused(NoMake, {"number": 0}, plain_answer, tree, self.schema, self.reader)

    def test_each_scan_is_read(self):
        reader = FixedReader({"people": [], "cities": []})
        for text, tables in (
                ("table people", ["people"]), ("table people | first 0", ["people"]),
                ("table people as p | with table cities", ["people", "cities"]),
                ("table people as p | with table cities as c | with ( table people as q | first 0 ) | choose p.id < p.id "
                 "| first 0",
                 ["people", "cities", "people"])):
            reader.read.clear()
            plain_answer(read_question(text), self.schema, reader)
            self.assertEqual(sorted(set(reader.read)), sorted(set(tables)))

    def test_columns_are_refused_ahead_of_all_reading(self):
        reader = FixedReader({})
        dealing = self.ended()
        self.make_swept()
        for text, error, values in (
                ("table towns", NoTable, {"table": "towns"}),
                ("table people | with table towns", NoTable, {"table": "towns"}),
                ("table people | keep people.x", NoColumn, {"name": "people.x"}),
                ("table people | sort people.x", NoColumn, {"name": "people.x"}),
                ("table people | choose people.id = people.x", NoColumn, {"name": "people.x"}),
                ("table people | choose people.id = 'a'", WrongKind, {"name": "people.id"}),
                ("table people | group : sum people.city s", WrongKind, {"name": "people.city"}),
                ("table people | with table people", Alike, {"name": "people.id"}),
                ("table people | keep people.id people.id", Alike, {"name": "people.id"}),
                ("table people | group : count n , count n", Alike, {"name": "n"}),
                ("table people | with ( table cities | keep cities.x ) | first 0", NoColumn, {"name": "cities.x"})):
            for one in (reader, self.reader, dealing):
                self.refused(error, values, plain_answer, read_question(text), self.schema, one)
        self.assertEqual(reader.read, [])

    def test_then_those_of_the_reader(self):
        reader = FixedReader({"people": PEOPLE})
        tree = read_question("table people as p | with table cities as c")
        self.refused(NoTable, {"table": "cities"}, plain_answer, tree, self.schema, reader)

    def test_what_is_told_is_the_askers_own(self):
        for text in ("table people as p", "table people as p | first 9", "table people as p | sort p.id",
                     "table people as p | keep p.id"):
            tree = read_question(text)
            before = plain_answer(tree, self.schema, self.reader)
            names, rows = plain_answer(tree, self.schema, self.reader)
            names.clear()
            rows.clear()
            self.same(plain_answer(tree, self.schema, self.reader), before)
        self.same(self.makes.rows_at(0, "people"), PEOPLE)


class RowsAfterTest(PlainCase):
    """Lists that are handed in: in no order, with alike rows, and not those of the tables."""

    MIXED = [(5, "b", 2), (1, "b", 2), (5, "b", 2), (3, "a", 9), (1, "a", 2)]

    def after(self, tree, lists, rows):
        before = [list(one) for one in lists]
        got = rows_after(tree, lists, self.schema)
        self.same(got, rows)
        self.same(lists, before)
        got.clear()
        self.same(lists, before)
        self.same(rows_after(tree, lists, self.schema), rows)

    def test_choose(self):
        self.after(Choose(Compare("p.age", "=", ("value", 2)), P), [self.MIXED],
                   [(1, "a", 2), (1, "b", 2), (5, "b", 2), (5, "b", 2)])
        self.after(Choose(Compare("p.age", "=", ("value", 7)), P), [self.MIXED], [])

    def test_keep(self):
        self.after(Keep(["p.city", "p.age"], P), [self.MIXED], [("a", 2), ("a", 9), ("b", 2), ("b", 2), ("b", 2)])

    def test_product(self):
        self.after(Product(P, C), [[(2, "b", 1), (1, "a", 1), (2, "b", 1)], [("y", 1), ("x", 2)]],
                   [(1, "a", 1, "x", 2), (1, "a", 1, "y", 1)] + [(2, "b", 1, "x", 2)] * 2 + [(2, "b", 1, "y", 1)] * 2)
        self.after(Product(C, P), [[], self.MIXED], [])
        self.after(Product(P, C), [self.MIXED, []], [])

    def test_group(self):
        self.after(Group(["p.city"], [("count", None, "n"), ("sum", "p.id", "s"), ("least", "p.age", "a")], P),
                   [self.MIXED],
                   [("a", 2, 4, 2), ("b", 3, 11, 2)])
        self.after(Group([], [("count", None, "n"), ("greatest", "p.id", "b")], P), [self.MIXED], [(5, 5)])
        self.after(Group([], [("count", None, "n")], P), [[]], [])
        self.after(Group(["p.id", "p.city"], [], P), [self.MIXED], [(1, "a"), (1, "b"), (3, "a"), (5, "b")])

    def test_sort(self):
        self.after(Sort([("p.age", True)], P), [self.MIXED],
                   [(3, "a", 9), (1, "a", 2), (1, "b", 2), (5, "b", 2), (5, "b", 2)])
        self.after(Sort([("p.city", True), ("p.id", False)], P), [self.MIXED],
                   [(1, "b", 2), (5, "b", 2), (5, "b", 2), (1, "a", 2), (3, "a", 9)])

    def test_first_takes_them_as_they_stand(self):
        for many in (0, 1, 3, 5, 9, 1000):
            self.after(First(many, P), [self.MIXED], self.MIXED[:many])
            self.after(First(many, Sort([("p.id", False)], P)), [self.MIXED], self.MIXED[:many])

    def test_the_parts_columns_count(self):
        part = Keep(["p.age", "p.id"], P)
        rows = [(9, 1), (2, 5), (2, 1)]
        self.after(Choose(Compare("p.id", "=", ("value", 1)), part), [rows], [(2, 1), (9, 1)])
        self.after(Keep(["p.id"], part), [rows], [(1,), (1,), (5,)])
        self.after(Sort([("p.id", True)], part), [rows], [(2, 5), (2, 1), (9, 1)])
        self.after(Group(["p.id"], [("sum", "p.age", "s")], part), [rows], [(1, 11), (5, 2)])
        made = Group(["p.city"], [("count", None, "n")], P)
        self.after(Choose(Compare("n", ">", ("value", 1)), made), [[("b", 2), ("a", 1), ("a", 3)]],
                   [("a", 3), ("b", 2)])

    def test_nodes_by_chance_agree_with_the_whole_answer(self):
        chance = random.Random(13)
        for turn in range(200):
            tree = Growth(chance).tree(6)
            if isinstance(tree, Scan):
                continue
            lists = [plain_answer(part, self.schema, self.reader)[1] for part in tree.parts()]
            self.same(rows_after(tree, lists, self.schema), plain_answer(tree, self.schema, self.reader)[1])
            if not isinstance(tree, First):
                for one in lists:
                    chance.shuffle(one)
                self.same(rows_after(tree, lists, self.schema), plain_answer(tree, self.schema, self.reader)[1])


class BySortTest(Case):
    NAMES = ["a", "b.c", "d"]
    ROWS = [(2, "x", 1), (1, "y", 1), (2, "x", 1), (1, "x", 5), (3, "x", 1), (1, "y", 0)]

    def ordered(self, by, rows):
        for kind in (list, tuple):
            handed, names = list(self.ROWS), list(self.NAMES)
            self.same(by_sort(handed, names, kind(by)), rows)
            self.same((handed, names), (self.ROWS, self.NAMES))

    def test_one_key(self):
        self.ordered([("a", False)], [(1, "x", 5), (1, "y", 0), (1, "y", 1), (2, "x", 1), (2, "x", 1), (3, "x", 1)])
        self.ordered([("a", True)], [(3, "x", 1), (2, "x", 1), (2, "x", 1), (1, "x", 5), (1, "y", 0), (1, "y", 1)])
        self.ordered([("b.c", True)], [(1, "y", 0), (1, "y", 1), (1, "x", 5), (2, "x", 1), (2, "x", 1), (3, "x", 1)])

    def test_several_keys(self):
        self.ordered([("d", True), ("a", True)],
                     [(1, "x", 5), (3, "x", 1), (2, "x", 1), (2, "x", 1), (1, "y", 1), (1, "y", 0)])
        self.ordered([("b.c", False), ("d", True)],
                     [(1, "x", 5), (2, "x", 1), (2, "x", 1), (3, "x", 1), (1, "y", 1), (1, "y", 0)])
        self.ordered([("a", False), ("a", True), ("d", True)],
                     [(1, "x", 5), (1, "y", 1), (1, "y", 0), (2, "x", 1), (2, "x", 1), (3, "x", 1)])

    def test_rows_that_fall_in_all_keys_rise_as_tuples(self):
        self.same(by_sort([(1, 2), (1, 1), (0, 3)], ["a", "b"], [("a", True)]), [(1, 1), (1, 2), (0, 3)])

    def test_without_rows(self):
        self.same(by_sort([], ["a"], [("a", True)]), [])

    def test_the_list_is_the_askers_own(self):
        rows = [(1,), (2,)]
        by_sort(rows, ["a"], [("a", False)]).clear()
        self.same(rows, [(1,), (2,)])

    def test_by_chance(self):
        chance = random.Random(1)
        for turn in range(300):
            rows = [tuple(chance.randrange(3) for name in self.NAMES) for row in range(chance.randrange(12))]
            by = [(chance.choice(self.NAMES), chance.random() < 0.5) for key in range(chance.randint(1, 4))]
            wanted = sorted([dict(zip(self.NAMES, row)) for row in rows], key=keys_order(by))
            self.same(by_sort(rows, self.NAMES, by), [tuple(row.values()) for row in wanted])


class SchemaTest(Case):
    def test_by_the_schema_that_is_handed_in(self):
        schema = schema_in("people a:word b:number")
        makes = Makes(schema, {"people": [("x", 3), ("a", 4)]})
        self.same(plain_answer(P, schema, AtMake(makes, 0)), (["p.a", "p.b"], [("a", 4), ("x", 3)]))

    def test_every_sign(self):
        makes = Makes(small_schema(), ROWS)
        for sign in SIGNS:
            tree = Choose(Compare("p.age", sign, ("value", 12)), P)
            self.same(plain_answer(tree, small_schema(), AtMake(makes, 0))[1],
                      [row for row in PEOPLE if stands(sign, row[2], 12)])


if __name__ == "__main__":
    unittest.main()
