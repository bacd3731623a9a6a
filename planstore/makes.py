"""Makes of tables: each the one ahead of it with writes, told as it stood."""

from planstore.errors import NoMake, NoOrder
from planstore.words import is_whole


# A stretch is a tuple (make that wrote it, next make that writes its key or None, row).
def lies_in(make, stretch):
    return stretch[0] <= make and (stretch[1] is None or make < stretch[1])


def row_then(stretches, make):
    for stretch in stretches:
        if lies_in(make, stretch):
            return stretch[2]
    return None


def still_lain_in(stretches, makes):
    return [stretch for stretch in stretches if any([lies_in(make, stretch) for make in makes])]


def order_of_rows(schema, table, column, rows):
    names = [name for name, kind in schema.columns_of(table)]
    if not schema.has_order(table, column):
        raise NoOrder(table, column)
    place = names.index(column)
    return sorted([(row[place], row[0]) for row in rows])


class Makes:
    def __init__(self, schema, rows=None):
        self.schema = schema
        self.last = 0
        self.still_told = {0: True}
        self.stretches = {}
        # kept apart from the stretches, as sweeping must not change since_make
        self.last_written = {}
        for table in schema.table_names():
            self.stretches[table] = {}
            self.last_written[table] = {}
        first = {} if rows is None else rows
        for table in first:
            schema.columns_of(table)
            for row in first[table]:
                self.write(table, row[0], row)

    def write(self, table, key, row):
        stretches = self.stretches[table].setdefault(key, [])
        if stretches and stretches[-1][1] is None:
            stretches[-1] = (stretches[-1][0], self.last, stretches[-1][2])
        if row is not None:
            stretches.append((self.last, None, row))
        self.last_written[table][key] = self.last

    def need_make(self, make):
        # is_whole first: True is like 1, and some things are no keys of a dict
        if not is_whole(make) or make not in self.still_told:
            raise NoMake(make)

    def need_table(self, make, table):
        self.need_make(make)
        self.schema.columns_of(table)

    def last_make(self):
        return self.last

    def add_make(self, writes):
        for table, key, row in writes:
            self.schema.columns_of(table)
        self.last += 1
        self.still_told[self.last] = True
        for table, key, row in writes:
            self.write(table, key, row)
        return self.last

    def row_at(self, make, table, key):
        self.need_table(make, table)
        if not self.schema.is_key(table, key):
            return None
        return row_then(self.stretches[table].get(key, []), make)

    def rows_at(self, make, table):
        self.need_table(make, table)
        stretches = self.stretches[table]
        rows = [row_then(stretches[key], make) for key in sorted(stretches)]
        return [row for row in rows if row is not None]

    def order_at(self, make, table, column):
        return order_of_rows(self.schema, table, column, self.rows_at(make, table))

    def since_make(self, make, table, key):
        self.need_table(make, table)
        if not self.schema.is_key(table, key):
            return None
        last = self.last_written[table].get(key)
        return last if last is not None and last > make else None

    def sweep(self, used):
        for make in used:
            self.need_make(make)
        self.still_told = {self.last: True}
        for make in used:
            self.still_told[make] = True
        for table in self.schema.table_names():
            self.sweep_table(table)

    def sweep_table(self, table):
        makes = list(self.still_told)
        stayed = {}
        for key, stretches in self.stretches[table].items():
            stay = still_lain_in(stretches, makes)
            if stay:
                stayed[key] = stay
        self.stretches[table] = stayed

    def versions(self):
        many = 0
        for by_key in self.stretches.values():
            many += sum([len(stretches) for stretches in by_key.values()])
        return many
