"""Schemas: tables with their columns, the orders kept beside, and their texts."""

from planstore.errors import NoColumn, NoSchema, NoTable
from planstore.words import is_name, is_value

KINDS = ("number", "word")
MOST = 4
BETWEEN_PARTS = " | "
ORDER_WORD = "order"


def few_of(thing, least):
    if not isinstance(thing, (list, tuple)) or not least <= len(thing) <= MOST:
        raise NoSchema()
    return thing


def pair_of(thing):
    if not isinstance(thing, tuple) or len(thing) != 2:
        raise NoSchema()
    return thing


def need_name(thing):
    if not is_name(thing):
        raise NoSchema()
    return thing


def need_unlike(things):
    if len(set(things)) != len(things):
        raise NoSchema()


def column_from(thing):
    pair = pair_of(thing)
    if not isinstance(pair[1], str) or pair[1] not in KINDS:
        raise NoSchema()
    return (need_name(pair[0]), pair[1])


def table_from(thing):
    pair = pair_of(thing)
    columns = tuple([column_from(part) for part in few_of(pair[1], 1)])
    need_unlike([column[0] for column in columns])
    return (need_name(pair[0]), columns)


def tables_from(thing):
    tables = tuple([table_from(part) for part in few_of(thing, 1)])
    need_unlike([table[0] for table in tables])
    return tables


def order_from(tables, thing):
    pair = pair_of(thing)
    order = (need_name(pair[0]), need_name(pair[1]))
    for name, columns in tables:
        if name == order[0] and order[1] in [column[0] for column in columns[1:]]:
            return order
    raise NoSchema()


def orders_from(tables, thing):
    if thing is None:
        return ()
    orders = tuple([order_from(tables, part) for part in few_of(thing, 0)])
    need_unlike(orders)
    return orders


class Schema:
    def __init__(self, tables, orders=None):
        self.tables = tables_from(tables)
        self.orders = orders_from(self.tables, orders)
        self.columns = dict(self.tables)

    def table_names(self):
        return [table[0] for table in self.tables]

    def columns_of(self, table):
        # is_name first: what is handed in may be no key of a dict
        if not is_name(table) or table not in self.columns:
            raise NoTable(table)
        return list(self.columns[table])

    def kind_of(self, table, column):
        for name, kind in self.columns_of(table):
            if is_name(column) and name == column:
                return kind
        raise NoColumn(column)

    def has_order(self, table, column):
        key = self.columns_of(table)[0][0]
        if not is_name(column):
            return False
        return column == key or (table, column) in self.orders

    def fits(self, table, row):
        columns = self.columns_of(table)
        if not isinstance(row, tuple) or len(row) != len(columns):
            return False
        return all([is_value(column[1], value) for column, value in zip(columns, row)])

    def is_key(self, table, thing):
        return is_value(self.columns_of(table)[0][1], thing)

    def told(self):
        return (self.tables, self.orders)


def table_text(name, columns):
    return " ".join([name] + [":".join(column) for column in columns])


def schema_text(schema):
    told = schema.told()
    parts = [table_text(name, columns) for name, columns in told[0]]
    orders = [" ".join((ORDER_WORD,) + order) for order in told[1]]
    return BETWEEN_PARTS.join(parts + orders)


def schema_in(text):
    if not isinstance(text, str):
        raise NoSchema()
    tables = []
    orders = []
    for part in text.split(BETWEEN_PARTS):
        words = part.split(" ")
        # a table may be called order; its columns have a colon
        if ":" in part:
            tables.append((words[0], [tuple(word.split(":")) for word in words[1:]]))
        else:
            orders.append(tuple(words[1:]))
    schema = Schema(tables, orders)
    # so a table behind an order, or another word than order, is refused
    if schema_text(schema) != text:
        raise NoSchema()
    return schema
