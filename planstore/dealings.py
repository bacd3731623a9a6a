"""Dealings: each reads the make of its begin with its own writes, until it ends."""

from planstore.errors import BadRow, Beaten, NoRow, Over, TooMany
from planstore.makes import order_of_rows
from planstore.readers import AtMake, Reader

MOST_AT_ONCE = 12
MOST_IN_ALL = 400


class Dealing(Reader):
    def __init__(self, number, makes):
        self.number = number
        self.schema = makes.schema
        self.begun_at = makes.last_make()
        self.beneath = AtMake(makes, self.begun_at)
        self.laid_over = {}
        for table in self.schema.table_names():
            self.laid_over[table] = {}
        self.fate_now = ("open", self.begun_at)

    def need_not_over(self):
        if self.fate_now[0] != "open":
            raise Over(self.number)

    def row_of(self, table, key):
        self.need_not_over()
        row = self.beneath.row_of(table, key)
        # True is like 1 in a dict, but no key
        if self.schema.is_key(table, key) and key in self.laid_over[table]:
            return self.laid_over[table][key]
        return row

    def rows_of(self, table):
        self.need_not_over()
        rows = {}
        for row in self.beneath.rows_of(table):
            rows[row[0]] = row
        rows.update(self.laid_over[table])
        return [rows[key] for key in sorted(rows) if rows[key] is not None]

    def order_of(self, table, column):
        return order_of_rows(self.schema, table, column, self.rows_of(table))

    def put(self, table, row):
        self.need_not_over()
        if not self.schema.fits(table, row):
            raise BadRow(table)
        self.laid_over[table][row[0]] = row

    def cut(self, table, key):
        if self.row_of(table, key) is None:
            raise NoRow(table, key)
        self.laid_over[table][key] = None

    def written(self):
        writes = []
        for table in sorted(self.laid_over):
            laid = self.laid_over[table]
            writes.extend([(table, key, laid[key]) for key in sorted(laid)])
        return writes

    def fate(self):
        return self.fate_now

    def end_kept(self, make):
        self.fate_now = ("kept", self.begun_at, make)

    def end_broken(self):
        self.fate_now = ("broken", self.begun_at)


class Dealings:
    def __init__(self, makes):
        self.makes = makes
        self.begun_many = 0
        self.not_over = {}
        # which dealing's writes each make has, to tell who beat another one
        self.written_by = {}

    def begin(self):
        if len(self.not_over) >= MOST_AT_ONCE or self.begun_many >= MOST_IN_ALL:
            raise TooMany()
        self.begun_many += 1
        dealing = Dealing(self.begun_many, self.makes)
        self.not_over[dealing.number] = dealing
        return dealing

    def open_list(self):
        return sorted(self.not_over)

    def may_keep(self, dealing):
        dealing.need_not_over()
        for table, key, row in dealing.written():
            make = self.makes.since_make(dealing.begun_at, table, key)
            if make is not None:
                self.broken(dealing)
                raise Beaten(table, key, self.written_by[make])

    def settled(self, dealing):
        dealing.need_not_over()
        writes = dealing.written()
        make = None
        if writes:
            make = self.makes.add_make(writes)
            self.written_by[make] = dealing.number
        dealing.end_kept(make)
        self.not_over.pop(dealing.number)

    def keep_it(self, dealing):
        self.may_keep(dealing)
        self.settled(dealing)

    def broken(self, dealing):
        dealing.need_not_over()
        dealing.end_broken()
        self.not_over.pop(dealing.number)

    def swept(self):
        self.makes.sweep([dealing.begun_at for dealing in self.not_over.values()])
