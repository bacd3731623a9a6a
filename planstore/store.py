"""The store: dealings on tables that are kept on a disk."""

from planstore.comeup import come_up
from planstore.dealings import Dealings
from planstore.errors import Fell
from planstore.logrows import row_text
from planstore.makes import Makes
from planstore.pages import late_page, trim_log
from planstore.readers import AtMake


def stuff_of_write(table, key, row):
    return ("cut", table, key) if row is None else ("set", table, row)


class Store:
    def __init__(self, disk, schema):
        came = come_up(disk, schema)
        self.disk = disk
        self.makes = Makes(schema, came[0])
        self.dealings = Dealings(self.makes)
        self.last_number = came[1]
        self.kept_many = came[2]
        # not asked of the disk, which may have power again
        self.has_fallen = False

    def need_not_fallen(self):
        if self.has_fallen:
            raise Fell()

    def begin(self):
        self.need_not_fallen()
        return self.dealings.begin()

    def keep_it(self, dealing):
        self.need_not_fallen()
        self.dealings.may_keep(dealing)
        writes = dealing.written()
        if writes:
            self.write_down([stuff_of_write(table, key, row) for table, key, row in writes])
        self.dealings.settled(dealing)

    def write_down(self, stuffs):
        for stuff in stuffs + [("keep", self.kept_many + 1)]:
            try:
                self.disk.add_row(row_text(self.last_number + 1, stuff))
            except Fell:
                self.has_fallen = True
                raise Fell()
            self.last_number += 1
        self.kept_many += 1

    def broken(self, dealing):
        self.need_not_fallen()
        self.dealings.broken(dealing)

    def swept(self):
        self.need_not_fallen()
        self.dealings.swept()

    def keeps(self):
        self.need_not_fallen()
        return self.kept_many

    def now(self):
        self.need_not_fallen()
        return AtMake(self.makes, self.makes.last_make())

    def late(self, table):
        rows = self.now().rows_of(table)
        try:
            late_page(self.disk, self.makes.schema, table, self.last_number, self.kept_many, rows)
        except Fell:
            self.has_fallen = True
            raise Fell()

    def trim(self):
        self.need_not_fallen()
        try:
            return trim_log(self.disk, self.makes.schema)
        except Fell:
            self.has_fallen = True
            raise Fell()
