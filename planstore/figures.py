"""Figures: how many rows of tables there are, by values of their columns."""

from planstore.conditions import is_between, stands


class Figures:
    def __init__(self, schema, reader):
        self.schema = schema
        self.rows_then = {}
        for table in schema.table_names():
            self.rows_then[table] = list(reader.rows_of(table))

    def count(self, table):
        self.schema.columns_of(table)
        return len(self.rows_then[table])

    # The values of a column, one for each row.
    def cells(self, table, column):
        self.schema.kind_of(table, column)
        names = [name for name, kind in self.schema.columns_of(table)]
        place = names.index(column)
        return [row[place] for row in self.rows_then[table]]

    def meeting(self, table, column, sign, value):
        return len([cell for cell in self.cells(table, column) if stands(sign, cell, value)])

    def between(self, table, column, low, high):
        return len([cell for cell in self.cells(table, column) if is_between(cell, low, high)])

    def most_of(self, table, column):
        counts = {}
        for cell in self.cells(table, column):
            counts[cell] = counts.get(cell, 0) + 1
        return max([0] + list(counts.values()))
