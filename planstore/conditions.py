"""Conditions: compares of columns, tied by and, or and not."""

from planstore.errors import NoColumn, WrongKind
from planstore.words import is_whole, value_text

SIGNS = ("=", "<>", "<", "<=", ">", ">=")
OPPOSITE = {"=": "<>", "<>": "=", "<": ">=", ">=": "<", ">": "<=", "<=": ">"}

# How close a condition ties its words: what ties less than its place asks for stands in brackets.
OR_TIES = 1
AND_TIES = 2
ALONE_TIES = 3


def stands(sign, one, other):
    if sign == "=":
        return one == other
    if sign == "<>":
        return one != other
    if sign == "<":
        return one < other
    if sign == "<=":
        return one <= other
    if sign == ">":
        return one > other
    return one >= other


# None leaves a side without a bound.
def is_between(value, low, high):
    return (low is None or low <= value) and (high is None or value <= high)


def kind_of_value(value):
    return "number" if is_whole(value) else "word"


def atom_text(atom):
    if atom[0] == "column":
        return atom[1]
    text = value_text(atom[1])
    return text if is_whole(atom[1]) else "'" + text + "'"


def text_within(cond, least):
    return cond.text() if cond.ties() >= least else "( " + cond.text() + " )"


class Cond:
    def holds(self, values):
        raise NotImplementedError()

    # The names of its compares as they come, some perhaps several times.
    def names_as_told(self):
        names = []
        for cond in self.parts():
            names.extend(cond.names_as_told())
        return names

    def names_in(self):
        return sorted(set(self.names_as_told()))

    # The conditions right beneath, the first ahead of the second.
    def parts(self):
        raise NotImplementedError()

    def judged(self, kinds):
        for cond in self.parts():
            cond.judged(kinds)

    def cleared(self):
        raise NotImplementedError()

    def opposite(self):
        raise NotImplementedError()

    def told(self):
        raise NotImplementedError()

    def text(self):
        raise NotImplementedError()

    def ties(self):
        return ALONE_TIES


class Compare(Cond):
    def __init__(self, left, sign, right):
        self.left = left
        self.sign = sign
        self.right = right

    def right_value(self, values):
        return values[self.right[1]] if self.right[0] == "column" else self.right[1]

    def holds(self, values):
        return stands(self.sign, values[self.left], self.right_value(values))

    def names_as_told(self):
        return [self.left, self.right[1]] if self.right[0] == "column" else [self.left]

    def parts(self):
        return []

    def right_kind(self, kinds):
        return kinds[self.right[1]] if self.right[0] == "column" else kind_of_value(self.right[1])

    def judged(self, kinds):
        for name in self.names_as_told():
            if name not in kinds:
                raise NoColumn(name)
        if kinds[self.left] != self.right_kind(kinds):
            raise WrongKind(self.left)

    def cleared(self):
        return self

    def opposite(self):
        return Compare(self.left, OPPOSITE[self.sign], self.right)

    def told(self):
        return ("compare", self.left, self.sign, self.right)

    def text(self):
        return " ".join([self.left, self.sign, atom_text(self.right)])


class And(Cond):
    def __init__(self, first, second):
        self.first = first
        self.second = second

    def holds(self, values):
        return self.first.holds(values) and self.second.holds(values)

    def parts(self):
        return [self.first, self.second]

    def cleared(self):
        return And(self.first.cleared(), self.second.cleared())

    def opposite(self):
        return Or(self.first.opposite(), self.second.opposite())

    def told(self):
        return ("and", self.first.told(), self.second.told())

    def text(self):
        return text_within(self.first, AND_TIES) + " and " + text_within(self.second, ALONE_TIES)

    def ties(self):
        return AND_TIES


class Or(Cond):
    def __init__(self, first, second):
        self.first = first
        self.second = second

    def holds(self, values):
        return self.first.holds(values) or self.second.holds(values)

    def parts(self):
        return [self.first, self.second]

    def cleared(self):
        return Or(self.first.cleared(), self.second.cleared())

    def opposite(self):
        return And(self.first.opposite(), self.second.opposite())

    def told(self):
        return ("or", self.first.told(), self.second.told())

    def text(self):
        return text_within(self.first, OR_TIES) + " or " + text_within(self.second, AND_TIES)

    def ties(self):
        return OR_TIES


class Not(Cond):
    def __init__(self, inside):
        self.inside = inside

    def holds(self, values):
        return not self.inside.holds(values)

    def parts(self):
        return [self.inside]

    def cleared(self):
        return self.inside.opposite()

    def opposite(self):
        return self.inside.cleared()

    def told(self):
        return ("not", self.inside.told())

    def text(self):
        return "not " + text_within(self.inside, ALONE_TIES)
