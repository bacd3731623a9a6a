"""What the tests have in common: a schema, odd things, questions by chance, and how a refusal is looked at."""

import unittest

from planstore.conditions import And, Compare, Not, Or
from planstore.makes import Makes
from planstore.plans import Along, Fetching, Firsts, Grouping, Matching, Narrow, Ordering, Pairing, Sift, Through
from planstore.readers import AtMake
from planstore.schema import Schema
from planstore.trees import Choose, First, Group, Keep, Product, Scan, Sort

TABLES = [
    ("people", [("id", "number"), ("city", "word"), ("age", "number")]),
    ("cities", [("name", "word"), ("size", "number")]),
]
ORDERS = [("people", "city"), ("people", "age")]
FIRST_ROWS = {
    "people": [(7, "rome", 30), (-2, "oslo", 30), (5, "oslo", 12)],
    "cities": [("rome", 9), ("oslo", 3)],
}

# Things that may be keys of a dict, and are no names of tables or columns here.
ODD_KEYS = [
    None, True, False, 0, 7, -1, 1.0, 0.0, "", " ", "nosuch", "People", "people ", "x y", "ninelette",
    b"people", (), ("people",), ("id",), frozenset(), object(), 10 ** 39, len, int,
]
ODD_THINGS = ODD_KEYS + [[], ["people"], {}, {"people": "id"}, set(), {"people"}, bytearray(b"id")]
SIGNS = ("=", "<>", "<", "<=", ">", ">=")


def small_schema():
    return Schema(TABLES, ORDERS)


class AlikeToAll:
    """A thing that says of all others that it is like them."""

    def __eq__(self, other):
        return True

    def __hash__(self):
        return 0


def value(left, sign, right):
    return Compare(left, sign, ("value", right))


def column(left, sign, right):
    return Compare(left, sign, ("column", right))


def whole(disk):
    """All that a disk has, and how many writes have come."""
    return (disk.log_rows(), [disk.page(slot) for slot in range(8)], disk.writes())


class Growth:
    """Trees by chance, whose columns the small schema doesn't refuse; at most so many scans in each."""

    def __init__(self, chance, scans=4):
        self.chance = chance
        self.scans = scans
        self.names = 0

    def new_name(self, head):
        self.names += 1
        return head + "abcdefghijklmnopqrstuvwxyz"[self.names // 26] + "abcdefghijklmnopqrstuvwxyz"[self.names % 26]

    def columns(self, tree):
        return tree.columns_told(small_schema())

    def some(self, things, least=1):
        return self.chance.sample(things, self.chance.randint(least, len(things)))

    def compare(self, columns):
        name, kind = self.chance.choice(columns)
        others = [other for other, of_kind in columns if of_kind == kind]
        value = self.chance.randint(-3, 30) if kind == "number" else self.chance.choice(["a", "oslo", "rome", "x"])
        right = self.chance.choice([("value", value), ("column", self.chance.choice(others))])
        return Compare(name, self.chance.choice(SIGNS), right)

    def cond(self, columns, deep):
        if deep == 1 or self.chance.random() < 0.4:
            return self.compare(columns)
        kind = self.chance.choice([And, Or, Not])
        if kind is Not:
            return Not(self.cond(columns, deep - 1))
        return kind(self.cond(columns, deep - 1), self.cond(columns, deep - 1))

    def sums(self, columns, least):
        sums = []
        for turn in range(self.chance.randint(least, 3)):
            word = self.chance.choice(["count", "sum", "least", "greatest"])
            names = [name for name, kind in columns if word != "sum" or kind == "number"]
            if word == "count" or not names:
                sums.append(("count", None, self.new_name("n")))
            else:
                sums.append((word, self.chance.choice(names), self.new_name("n")))
        return sums

    def tree(self, deep):
        kind = self.chance.choice([Scan, Choose, Choose, Keep, Product, Product, Group, Sort, First])
        if deep == 1 or kind is Scan or (kind is Product and self.scans < 2):
            table = self.chance.choice(["people", "cities"])
            return Scan(table, self.new_name("t"))
        if kind is Product:
            self.scans -= 1
            return Product(self.tree(deep - 1), self.tree(deep - 1))
        return self.over(kind, self.tree(deep - 1))

    def over(self, kind, part):
        columns = self.columns(part)
        names = [name for name, of_kind in columns]
        if kind is Choose:
            return Choose(self.cond(columns, 3), part)
        if kind is Keep:
            return Keep(self.some(names), part)
        if kind is Group:
            by = self.some(names, 0)
            return Group(by, self.sums(columns, 0 if by else 1), part)
        if kind is Sort:
            return Sort([(name, self.chance.random() < 0.5) for name in self.some(names)], part)
        return First(self.chance.choice([0, 1, 2, 3, 5, 1000]), part)


class PlanGrowth(Growth):
    """Plans by chance, which the small schema doesn't refuse."""

    ORDERED = [("people", "id", "number"), ("people", "city", "word"), ("people", "age", "number"),
               ("cities", "name", "word")]

    def columns(self, thing):
        return Growth.columns(self, thing.reading() if hasattr(thing, "reading") else thing)

    def bound(self, kind):
        if self.chance.random() < 0.3:
            return None
        return self.chance.randint(-1, 6) if kind == "number" else self.chance.choice("abc")

    def along(self):
        table, column, kind = self.chance.choice(self.ORDERED)
        low = self.bound(kind)
        high = low if self.chance.random() < 0.2 else self.bound(kind)
        return Along(table, self.new_name("t"), column, low, high)

    def pairs(self, one, other):
        others = self.columns(other)
        pairs = [(name, alike) for name, kind in self.columns(one) for alike, of_kind in others if kind == of_kind]
        return self.chance.sample(pairs, min(len(pairs), self.chance.choice([1, 1, 2, 3])))

    def two(self, deep):
        self.scans -= 1
        one, other = self.plan(deep - 1), self.plan(deep - 1)
        pairs = self.pairs(one, other)
        return Matching(one, other, pairs) if pairs and self.chance.random() < 0.7 else Pairing(one, other)

    def fetching(self, deep):
        self.scans -= 1
        one = self.plan(deep - 1)
        table, column, kind = self.chance.choice(self.ORDERED)
        probes = [name for name, of_kind in self.columns(one) if of_kind == kind]
        if not probes:
            return one
        return Fetching(one, table, self.new_name("t"), column, self.chance.choice(probes))

    def plan(self, deep):
        kind = self.chance.choice(["leaf", "two", "two", "fetch", "fetch", "sift", "narrow", "group", "sort", "first"])
        if deep == 1 or kind == "leaf" or (kind in ("two", "fetch") and self.scans < 2):
            table = self.chance.choice(["people", "cities"])
            return self.along() if self.chance.random() < 0.6 else Through(table, self.new_name("t"))
        if kind == "two":
            return self.two(deep)
        if kind == "fetch":
            return self.fetching(deep)
        return self.piece_over(kind, self.plan(deep - 1))

    def piece_over(self, kind, part):
        tree = self.over({"sift": Choose, "narrow": Keep, "group": Group, "sort": Sort, "first": First}[kind], part)
        if kind == "sift":
            return Sift(tree.cond, part)
        if kind == "narrow":
            return Narrow(tree.kept, part)
        if kind == "group":
            return Grouping(tree.by, tree.sums, part)
        return Ordering(tree.by, part) if kind == "sort" else Firsts(tree.many, part)


def rows_by(chance, most=6):
    """Rows of the small schema's tables by chance, with few unlike values."""
    people = chance.sample(range(9), chance.randint(0, most))
    cities = chance.sample("abcdef", chance.randint(0, min(most, 6)))
    return {"people": [(key, chance.choice("abc"), chance.randrange(4)) for key in people],
            "cities": [(key, chance.randrange(4)) for key in cities]}


def reader_of(rows):
    return AtMake(Makes(small_schema(), rows), 0)


class Case(unittest.TestCase):
    def refused(self, error, values, call, *args):
        """The call is refused with just this class, which has just these values by name."""
        with self.assertRaises(error) as caught:
            call(*args)
        self.assertIs(type(caught.exception), error)
        for name, value in values.items():
            got = getattr(caught.exception, name)
            # True is like 1, so the class of what is told counts, too
            self.assertIs(type(got), type(value))
            self.assertEqual(got, value)

    def same(self, got, wanted):
        """Alike in value and, all the way down, in kind."""
        self.assertEqual(got, wanted)
        self.assertEqual(repr(got), repr(wanted))
