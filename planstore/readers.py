"""Readers: they tell rows of tables, and change none."""


class Reader:
    def row_of(self, table, key):
        raise NotImplementedError()

    def rows_of(self, table):
        raise NotImplementedError()

    def order_of(self, table, column):
        raise NotImplementedError()


class AtMake(Reader):
    def __init__(self, makes, make):
        self.makes = makes
        self.make = make

    def row_of(self, table, key):
        return self.makes.row_at(self.make, table, key)

    def rows_of(self, table):
        return self.makes.rows_at(self.make, table)

    def order_of(self, table, column):
        return self.makes.order_at(self.make, table, column)
