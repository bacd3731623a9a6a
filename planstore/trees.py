"""Trees of questions: seven nodes, their columns, parts, tuples and texts."""

from planstore.errors import Alike, NoColumn, WrongKind

SUM_WORDS = ("count", "sum", "least", "greatest")


def need_column(columns, name):
    if name not in dict(columns):
        raise NoColumn(name)


def need_not_among(names, name):
    if name in names:
        raise Alike(name)


def names_of(columns):
    return [name for name, kind in columns]


# The columns of some names, in the names' order: each one of the columns, none twice.
def columns_by(columns, names):
    kinds = dict(columns)
    ahead = []
    for name in names:
        need_column(columns, name)
        need_not_among(ahead, name)
        ahead.append(name)
    return [(name, kinds[name]) for name in names]


def kind_of_sum(columns, word, name):
    if word == "count":
        return "number"
    need_column(columns, name)
    kind = dict(columns)[name]
    if word == "sum" and kind == "word":
        raise WrongKind(name)
    return kind


def sum_text(word, name, new):
    return " ".join([word, new] if word == "count" else [word, name, new])


# Without names, or without sums, nothing stands there, nor its blank.
def group_text(by, sums):
    texts = [sum_text(word, name, new) for word, name, new in sums]
    return " ".join(list(by) + [":"] + ([" , ".join(texts)] if texts else []))


def keys_text(by):
    return " , ".join([name + " down" if down else name for name, down in by])


class Tree:
    # The columns, and the names that stand under the node: both at once, as a product asks for both of each part.
    def shape(self, schema):
        raise NotImplementedError()

    def columns_told(self, schema):
        return self.shape(schema)[0]

    def parts(self):
        raise NotImplementedError()

    def with_parts(self, parts):
        raise NotImplementedError()

    def told(self):
        raise NotImplementedError()

    def text(self):
        raise NotImplementedError()

    def source_text(self):
        return "( " + self.text() + " )"


class Scan(Tree):
    def __init__(self, table, alias):
        self.table = table
        self.alias = alias

    def shape(self, schema):
        columns = [(self.alias + "." + name, kind) for name, kind in schema.columns_of(self.table)]
        return (columns, names_of(columns))

    def parts(self):
        return []

    def with_parts(self, parts):
        return Scan(self.table, self.alias)

    def told(self):
        return ("scan", self.table, self.alias)

    def text(self):
        text = "table " + self.table
        return text if self.alias == self.table else text + " as " + self.alias

    def source_text(self):
        return self.text()


class Choose(Tree):
    def __init__(self, cond, part):
        self.cond = cond
        self.part = part

    def shape(self, schema):
        shape = self.part.shape(schema)
        self.cond.judged(dict(shape[0]))
        return shape

    def parts(self):
        return [self.part]

    def with_parts(self, parts):
        return Choose(self.cond, parts[0])

    def told(self):
        return ("choose", self.cond.told(), self.part.told())

    def text(self):
        return self.part.text() + " | choose " + self.cond.text()


class Keep(Tree):
    def __init__(self, kept, part):
        self.kept = tuple(kept)
        self.part = part

    def shape(self, schema):
        shape = self.part.shape(schema)
        # the names that are dropped stand under it still
        return (columns_by(shape[0], self.kept), shape[1])

    def parts(self):
        return [self.part]

    def with_parts(self, parts):
        return Keep(self.kept, parts[0])

    def told(self):
        return ("keep", self.kept, self.part.told())

    def text(self):
        return self.part.text() + " | keep " + " ".join(self.kept)


class Product(Tree):
    def __init__(self, one, other):
        self.one = one
        self.other = other

    def shape(self, schema):
        one = self.one.shape(schema)
        other = self.other.shape(schema)
        for name in other[1]:
            need_not_among(one[1], name)
        return (one[0] + other[0], one[1] + other[1])

    def parts(self):
        return [self.one, self.other]

    def with_parts(self, parts):
        return Product(parts[0], parts[1])

    def told(self):
        return ("product", self.one.told(), self.other.told())

    def text(self):
        return self.one.text() + " | with " + self.other.source_text()


class Group(Tree):
    def __init__(self, by, sums, part):
        self.by = tuple(by)
        self.sums = tuple(sums)
        self.part = part

    def shape(self, schema):
        beneath = self.part.columns_told(schema)
        columns = columns_by(beneath, self.by)
        for word, name, new in self.sums:
            kind = kind_of_sum(beneath, word, name)
            need_not_among(names_of(columns), new)
            columns.append((new, kind))
        return (columns, names_of(columns))

    def parts(self):
        return [self.part]

    def with_parts(self, parts):
        return Group(self.by, self.sums, parts[0])

    def told(self):
        return ("group", self.by, self.sums, self.part.told())

    def text(self):
        return self.part.text() + " | group " + group_text(self.by, self.sums)


class Sort(Tree):
    def __init__(self, by, part):
        self.by = tuple(by)
        self.part = part

    def shape(self, schema):
        shape = self.part.shape(schema)
        for name, down in self.by:
            need_column(shape[0], name)
        return shape

    def parts(self):
        return [self.part]

    def with_parts(self, parts):
        return Sort(self.by, parts[0])

    def told(self):
        return ("sort", self.by, self.part.told())

    def text(self):
        return self.part.text() + " | sort " + keys_text(self.by)


class First(Tree):
    def __init__(self, many, part):
        self.many = many
        self.part = part

    def shape(self, schema):
        columns = self.part.columns_told(schema)
        return (columns, names_of(columns))

    def parts(self):
        return [self.part]

    def with_parts(self, parts):
        return First(self.many, parts[0])

    def told(self):
        return ("first", self.many, self.part.told())

    def text(self):
        return self.part.text() + " | first " + str(self.many)


def names_told(tree, schema):
    return names_of(tree.columns_told(schema))


def leaves_beneath(tree):
    if not isinstance(tree, (Choose, Keep, Product)):
        return [tree]
    leaves = []
    for part in tree.parts():
        leaves.extend(leaves_beneath(part))
    return leaves
