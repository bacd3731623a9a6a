"""Conditions [71] to [73], their tuples [75] and texts [77], [79], and [4], [5] of them."""

import itertools
import random
import unittest

from helper import Case
from planstore.conditions import And, Compare, Cond, Not, Or
from planstore.errors import NoColumn, WrongKind

SIGNS = {
    "=": lambda one, other: one == other,
    "<>": lambda one, other: one != other,
    "<": lambda one, other: one < other,
    "<=": lambda one, other: one <= other,
    ">": lambda one, other: one > other,
    ">=": lambda one, other: one >= other,
}
OPPOSITES = {"=": "<>", "<>": "=", "<": ">=", ">=": "<", ">": "<=", "<=": ">"}
KINDS = {"p.age": "number", "p.city": "word", "c.name": "word", "many": "number"}


def number(left, sign, value):
    return Compare(left, sign, ("value", value))


def column(left, sign, name):
    return Compare(left, sign, ("column", name))


A, B, C, D = (number("p." + name, "=", place) for place, name in enumerate("abcd"))


def tree_told(cond):
    """A condition as nested tuples, made of its values alone."""
    if isinstance(cond, Compare):
        return ("compare", cond.left, cond.sign, cond.right)
    if isinstance(cond, Not):
        return ("not", tree_told(cond.inside))
    return ("and" if isinstance(cond, And) else "or", tree_told(cond.first), tree_told(cond.second))


def cleared_told(told, turned=False):
    """The nested tuples of a condition cleared, or of its not cleared, made apart from the program."""
    if told[0] == "compare":
        return ("compare", told[1], OPPOSITES[told[2]] if turned else told[2], told[3])
    if told[0] == "not":
        return cleared_told(told[1], not turned)
    word = {"and": "or", "or": "and"}[told[0]] if turned else told[0]
    return (word, cleared_told(told[1], turned), cleared_told(told[2], turned))


def any_cond(chance, deep):
    if deep == 1 or chance.random() < 0.3:
        sign = chance.choice(list(SIGNS))
        right = chance.choice([("value", chance.randrange(3)), ("column", "p.x"), ("column", "y")])
        return Compare(chance.choice(["p.x", "y", "z"]), sign, right)
    kind = chance.randrange(3)
    if kind == 0:
        return Not(any_cond(chance, deep - 1))
    return (And if kind == 1 else Or)(any_cond(chance, deep - 1), any_cond(chance, deep - 1))


class ClassesTest(Case):
    def test_four_kinds_none_under_another(self):
        kinds = (Compare, And, Or, Not)
        for one in kinds:
            self.assertTrue(issubclass(one, Cond))
            self.assertEqual([other for other in kinds if issubclass(one, other)], [one])

    def test_values(self):
        cond = Compare("p.age", "<=", ("value", 7))
        self.same((cond.left, cond.sign, cond.right), ("p.age", "<=", ("value", 7)))
        for kind in (And, Or):
            both = kind(A, B)
            self.assertIs(both.first, A)
            self.assertIs(both.second, B)
        self.assertIs(Not(C).inside, C)


class HoldsTest(Case):
    def test_numbers_by_size(self):
        for one, other in itertools.product((-10 ** 9, -3, 0, 2, 10, 10 ** 9, 10 ** 12), repeat=2):
            for sign, stands in SIGNS.items():
                self.same(number("p.age", sign, other).holds({"p.age": one}), stands(one, other))
                self.same(column("p.age", sign, "c.b").holds({"p.age": one, "c.b": other}), stands(one, other))

    def test_words_as_python_orders_texts(self):
        for one, other in itertools.product(("a", "ab", "b", "zz", "abcdefgh", "aa"), repeat=2):
            for sign, stands in SIGNS.items():
                self.same(number("p.city", sign, other).holds({"p.city": one, "x": 1}), stands(one, other))
                self.same(column("p.city", sign, "n").holds({"p.city": one, "n": other}), stands(one, other))

    def test_a_column_with_itself(self):
        for sign in SIGNS:
            self.same(column("a", sign, "a").holds({"a": 5}), sign in ("=", "<=", ">="))

    def test_tied(self):
        for one, other in itertools.product((False, True), repeat=2):
            first, second = number("a", "=", 1), number("b", "=", 1)
            values = {"a": int(one), "b": int(other)}
            self.same(And(first, second).holds(values), one and other)
            self.same(Or(first, second).holds(values), one or other)
            self.same(Not(first).holds(values), not one)
            self.same(Not(And(first, Not(second))).holds(values), not (one and not other))

    def test_values_are_not_changed(self):
        values = {"a": 1, "b": 2}
        And(number("a", "=", 1), column("a", "<", "b")).holds(values)
        self.same(values, {"a": 1, "b": 2})


class NamesTest(Case):
    def test_rising_each_once(self):
        self.same(number("p.age", "=", 1).names_in(), ["p.age"])
        self.same(number("p.age", "=", "many").names_in(), ["p.age"])
        self.same(column("p.b", "=", "p.a").names_in(), ["p.a", "p.b"])
        self.same(column("p.a", "=", "p.a").names_in(), ["p.a"])
        cond = Or(Not(column("z", "=", "p.a")), And(number("b", "=", 1), number("z", "<", 4)))
        self.same(cond.names_in(), ["b", "p.a", "z"])

    def test_the_list_is_the_askers_own(self):
        cond = And(column("z", "=", "p.a"), A)
        cond.names_in().clear()
        self.same(cond.names_in(), ["p.a", "z"])


class JudgedTest(Case):
    def lets_by(self, *conds):
        for cond in conds:
            self.assertIsNone(cond.judged(KINDS))

    def no_column(self, name, *conds):
        for cond in conds:
            self.refused(NoColumn, {"name": name}, cond.judged, KINDS)

    def wrong_kind(self, name, *conds):
        for cond in conds:
            self.refused(WrongKind, {"name": name}, cond.judged, KINDS)

    def test_what_is_let_by(self):
        good = number("p.age", "<", 4)
        self.lets_by(good, number("p.city", "=", "rome"), column("p.age", ">=", "many"),
                     column("p.city", "<>", "c.name"),
                     column("p.age", "=", "p.age"), Not(good), And(good, Or(good, Not(good))))

    def test_no_column(self):
        self.no_column("p.no", number("p.no", "=", 1), number("p.no", "=", "a"), column("p.no", "=", "p.age"),
                       column("p.age", "=", "p.no"), column("p.city", "=", "p.no"), column("p.no", "=", "p.none"))
        self.no_column("age", number("age", "=", 1))
        self.no_column("p", number("p", "=", 1))

    def test_wrong_kind(self):
        self.wrong_kind("p.age", number("p.age", "=", "a"), column("p.age", "=", "p.city"))
        self.wrong_kind("p.city", number("p.city", "<", 1), column("p.city", "<>", "p.age"), number("p.city", "=", -3))

    def test_the_first_fault_goes(self):
        good = number("p.age", "<", 4)
        lacks, worse, kinds = number("x", "=", 1), column("p.age", "=", "y"), number("p.city", "=", 1)
        self.no_column("x", And(lacks, worse), Or(good, Or(lacks, kinds)), And(And(good, lacks), kinds),
                       Not(And(lacks, kinds)))
        self.no_column("y", And(worse, lacks), Or(Not(worse), lacks), Or(And(worse, good), kinds))
        self.wrong_kind("p.city", And(kinds, lacks), Or(kinds, worse), Not(Or(And(good, kinds), worse)))
        # an or is gone through in the same way, also where it holds by its first condition
        self.wrong_kind("p.city", Or(good, kinds))

    def test_kinds_are_not_changed(self):
        kinds = dict(KINDS)
        number("p.age", "<", 4).judged(kinds)
        self.refused(NoColumn, {"name": "x"}, number("x", "=", 1).judged, kinds)
        self.same(kinds, KINDS)


class ClearedTest(Case):
    def test_compares(self):
        for sign, other in OPPOSITES.items():
            cond = column("a", sign, "b")
            self.same(cond.cleared().told(), cond.told())
            self.same(cond.opposite().told(), ("compare", "a", other, ("column", "b")))
            self.same(Not(cond).cleared().told(), ("compare", "a", other, ("column", "b")))
            self.same(Not(cond).opposite().told(), cond.told())
            self.same(Not(Not(cond)).cleared().told(), cond.told())

    def test_tied(self):
        self.same(And(Not(A), B).cleared().told(), And(A.opposite(), B).told())
        self.same(Or(A, Not(B)).cleared().told(), Or(A, B.opposite()).told())
        self.same(Not(And(A, B)).cleared().told(), Or(A.opposite(), B.opposite()).told())
        self.same(Not(Or(A, B)).cleared().told(), And(A.opposite(), B.opposite()).told())
        self.same(And(A, Not(Or(B, Not(C)))).opposite().told(), Or(A.opposite(), Or(B, C.opposite())).told())

    def test_any_condition(self):
        chance = random.Random(7)
        for turn in range(400):
            cond = any_cond(chance, 5)
            told = cond.told()
            self.same(cond.cleared().told(), cleared_told(told))
            self.same(cond.opposite().told(), cleared_told(told, True))
            self.same(cond.told(), told)
            for x, y, z in itertools.product(range(3), repeat=3):
                values = {"p.x": x, "y": y, "z": z}
                self.same(cond.cleared().holds(values), cond.holds(values))
                self.same(cond.opposite().holds(values), not cond.holds(values))
            self.assertLessEqual(set(cond.cleared().names_in()), set(cond.names_in()))


class ToldTest(Case):
    def test_each_kind(self):
        self.same(number("p.age", "<=", -7).told(), ("compare", "p.age", "<=", ("value", -7)))
        self.same(number("p.city", "=", "rome").told(), ("compare", "p.city", "=", ("value", "rome")))
        self.same(column("a", "<>", "b").told(), ("compare", "a", "<>", ("column", "b")))
        self.same(And(A, B).told(), ("and", A.told(), B.told()))
        self.same(Or(A, B).told(), ("or", A.told(), B.told()))
        self.same(Not(A).told(), ("not", A.told()))

    def test_nested(self):
        chance = random.Random(3)
        for turn in range(100):
            cond = any_cond(chance, 6)
            self.same(cond.told(), tree_told(cond))


class TextTest(Case):
    def test_compares(self):
        for cond, text in (
                (number("p.age", "<=", 7), "p.age <= 7"), (number("p.age", ">", -10 ** 9), "p.age > -1000000000"),
                (number("many", "=", 0), "many = 0"), (number("p.city", "<>", "rome"), "p.city <> 'rome'"),
                (column("p.city", ">=", "c.name"), "p.city >= c.name"), (column("a", "<", "b"), "a < b"),
                (number("not", "=", 3), "not = 3"), (column("and", "=", "or"), "and = or")):
            self.same(cond.text(), text)

    def test_brackets_just_where_they_are_needed(self):
        for cond, text in (
                (And(A, B), "A and B"), (Or(A, B), "A or B"), (Not(A), "not A"), (Not(Not(A)), "not not A"),
                (And(And(A, B), C), "A and B and C"), (And(A, And(B, C)), "A and ( B and C )"),
                (Or(Or(A, B), C), "A or B or C"), (Or(A, Or(B, C)), "A or ( B or C )"),
                (Or(And(A, B), C), "A and B or C"), (Or(A, And(B, C)), "A or B and C"),
                (And(Or(A, B), C), "( A or B ) and C"), (And(A, Or(B, C)), "A and ( B or C )"),
                (Not(And(A, B)), "not ( A and B )"), (Not(Or(A, B)), "not ( A or B )"),
                (And(Not(A), Not(B)), "not A and not B"), (Or(Not(A), Not(B)), "not A or not B"),
                (Not(Not(And(A, B))), "not not ( A and B )"), (Not(And(Not(A), B)), "not ( not A and B )"),
                (And(Or(A, B), Or(C, D)), "( A or B ) and ( C or D )"),
                (Or(And(A, B), And(C, D)), "A and B or C and D"),
                (And(And(A, B), And(C, D)), "A and B and ( C and D )"),
                (Or(Or(A, B), Or(C, D)), "A or B or ( C or D )"),
                (And(And(Or(A, B), C), D), "( A or B ) and C and D"),
                (Or(A, Or(And(B, C), D)), "A or ( B and C or D )")):
            for place, name in enumerate("ABCD"):
                text = text.replace(name, f"p.{name.lower()} = {place}")
            self.same(cond.text(), text)

    def test_not_of_a_column_called_not(self):
        self.same(Not(number("not", "=", 3)).text(), "not not = 3")
        self.same(And(number("not", "=", 3), column("a", "=", "not")).text(), "not = 3 and a = not")

    def test_nothing_is_changed_by_asking(self):
        cond = Or(Not(And(A, B)), C)
        told = cond.told()
        for turn in range(2):
            self.same(cond.text(), "not ( p.a = 0 and p.b = 1 ) or p.c = 2")
            cond.cleared()
            cond.opposite()
            cond.names_in()
            self.same(cond.told(), told)
        self.assertIs(cond.second, C)


if __name__ == "__main__":
    unittest.main()
