"""Plans: trees of pieces by which rows are fetched, each with the tree that it is to answer."""

from planstore.conditions import And, Compare, atom_text
from planstore.errors import NoOrder
from planstore.trees import Choose, First, Group, Keep, Product, Scan, Sort, group_text, keys_text


def column_under(alias, column):
    return alias + "." + column


def equal_columns(left, right):
    return Compare(left, "=", ("column", right))


# What a piece looks at itself, beside what its parts do: counts are how many rows each part has, many its own rows.
def looked_at(word, counts, many):
    if word == "through":
        return many
    if word == "along":
        return many + 1
    if word in ("sift", "narrow", "grouping"):
        return counts[0]
    if word == "pairing":
        return counts[0] * counts[1]
    if word == "matching":
        return counts[0] + counts[1] + many
    if word == "fetching":
        return counts[0] + many
    return 0


class Plan:
    def piece_word(self):
        raise NotImplementedError()

    def reading(self):
        raise NotImplementedError()

    def parts(self):
        raise NotImplementedError()

    def told(self):
        raise NotImplementedError()

    def text(self):
        raise NotImplementedError()

    # The table and the column of the order that the piece itself goes by, None where it goes by none.
    def order_used(self):
        return None


class Through(Plan):
    def __init__(self, table, alias):
        self.table = table
        self.alias = alias

    def piece_word(self):
        return "through"

    def reading(self):
        return Scan(self.table, self.alias)

    def parts(self):
        return []

    def told(self):
        return ("through", self.table, self.alias)

    def text(self):
        return "through " + self.table + " as " + self.alias


class Along(Plan):
    def __init__(self, table, alias, column, low, high):
        self.table = table
        self.alias = alias
        self.column = column
        self.low = low
        self.high = high

    def piece_word(self):
        return "along"

    def compared(self, sign, value):
        return Compare(column_under(self.alias, self.column), sign, ("value", value))

    def reading(self):
        scan = Scan(self.table, self.alias)
        if self.low is None and self.high is None:
            return scan
        if self.low == self.high:
            return Choose(self.compared("=", self.low), scan)
        if self.high is None:
            return Choose(self.compared(">=", self.low), scan)
        if self.low is None:
            return Choose(self.compared("<=", self.high), scan)
        return Choose(And(self.compared(">=", self.low), self.compared("<=", self.high)), scan)

    def parts(self):
        return []

    def told(self):
        return ("along", self.table, self.alias, self.column, self.low, self.high)

    def text(self):
        words = ["along", self.table, "as", self.alias, "by", self.column]
        if self.low is not None:
            words.extend(["from", atom_text(("value", self.low))])
        if self.high is not None:
            words.extend(["to", atom_text(("value", self.high))])
        return " ".join(words)

    def order_used(self):
        return (self.table, self.column)


class Sift(Plan):
    def __init__(self, cond, part):
        self.cond = cond
        self.part = part

    def piece_word(self):
        return "sift"

    def reading(self):
        return Choose(self.cond, self.part.reading())

    def parts(self):
        return [self.part]

    def told(self):
        return ("sift", self.cond.told(), self.part.told())

    def text(self):
        return self.part.text() + " | sift " + self.cond.text()


class Narrow(Plan):
    def __init__(self, kept, part):
        self.kept = tuple(kept)
        self.part = part

    def piece_word(self):
        return "narrow"

    def reading(self):
        return Keep(self.kept, self.part.reading())

    def parts(self):
        return [self.part]

    def told(self):
        return ("narrow", self.kept, self.part.told())

    def text(self):
        return self.part.text() + " | narrow " + " ".join(self.kept)


class Pairing(Plan):
    def __init__(self, one, other):
        self.one = one
        self.other = other

    def piece_word(self):
        return "pairing"

    def reading(self):
        return Product(self.one.reading(), self.other.reading())

    def parts(self):
        return [self.one, self.other]

    def told(self):
        return ("pairing", self.one.told(), self.other.told())

    def text(self):
        return "( " + self.one.text() + " ) pairing ( " + self.other.text() + " )"


class Matching(Plan):
    def __init__(self, one, other, pairs):
        self.one = one
        self.other = other
        self.pairs = tuple(pairs)

    def piece_word(self):
        return "matching"

    def reading(self):
        tree = Product(self.one.reading(), self.other.reading())
        for first, second in reversed(self.pairs):
            tree = Choose(equal_columns(first, second), tree)
        return tree

    def parts(self):
        return [self.one, self.other]

    def told(self):
        return ("matching", self.one.told(), self.other.told(), self.pairs)

    def text(self):
        pairs = " and ".join([first + " = " + second for first, second in self.pairs])
        return "( " + self.one.text() + " ) matching ( " + self.other.text() + " ) on " + pairs


class Fetching(Plan):
    def __init__(self, one, table, alias, column, probe):
        self.one = one
        self.table = table
        self.alias = alias
        self.column = column
        self.probe = probe

    def piece_word(self):
        return "fetching"

    def reading(self):
        product = Product(self.one.reading(), Scan(self.table, self.alias))
        return Choose(equal_columns(self.probe, column_under(self.alias, self.column)), product)

    def parts(self):
        return [self.one]

    def told(self):
        return ("fetching", self.one.told(), self.table, self.alias, self.column, self.probe)

    def text(self):
        words = [")", "fetching", self.table, "as", self.alias, "by", self.column, "=", self.probe]
        return "( " + self.one.text() + " " + " ".join(words)

    def order_used(self):
        return (self.table, self.column)


class Grouping(Plan):
    def __init__(self, by, sums, part):
        self.by = tuple(by)
        self.sums = tuple(sums)
        self.part = part

    def piece_word(self):
        return "grouping"

    def reading(self):
        return Group(self.by, self.sums, self.part.reading())

    def parts(self):
        return [self.part]

    def told(self):
        return ("grouping", self.by, self.sums, self.part.told())

    def text(self):
        return self.part.text() + " | grouping " + group_text(self.by, self.sums)


class Ordering(Plan):
    def __init__(self, by, part):
        self.by = tuple(by)
        self.part = part

    def piece_word(self):
        return "ordering"

    def reading(self):
        return Sort(self.by, self.part.reading())

    def parts(self):
        return [self.part]

    def told(self):
        return ("ordering", self.by, self.part.told())

    def text(self):
        return self.part.text() + " | ordering " + keys_text(self.by)


class Firsts(Plan):
    def __init__(self, many, part):
        self.many = many
        self.part = part

    def piece_word(self):
        return "firsts"

    def reading(self):
        return First(self.many, self.part.reading())

    def parts(self):
        return [self.part]

    def told(self):
        return ("firsts", self.many, self.part.told())

    def text(self):
        return self.part.text() + " | firsts " + str(self.many)


def need_orders(plan, schema):
    for part in plan.parts():
        need_orders(part, schema)
    order = plan.order_used()
    if order is not None and not schema.has_order(order[0], order[1]):
        raise NoOrder(order[0], order[1])


def need_plan(plan, schema):
    plan.reading().columns_told(schema)
    need_orders(plan, schema)
