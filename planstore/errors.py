"""The refusals of the store, each with a class of its own and its values by name."""


class StoreError(ValueError):
    pass


class NoSchema(StoreError):
    pass


class TooMany(StoreError):
    pass


class Fell(StoreError):
    pass


class NoTable(StoreError):
    def __init__(self, table):
        self.table = table


class NoOrder(StoreError):
    def __init__(self, table, column):
        self.table = table
        self.column = column


class BadRow(StoreError):
    def __init__(self, table):
        self.table = table


class NoRow(StoreError):
    def __init__(self, table, key):
        self.table = table
        self.key = key


class NoMake(StoreError):
    def __init__(self, number):
        self.number = number


class Over(StoreError):
    def __init__(self, number):
        self.number = number


class Beaten(StoreError):
    def __init__(self, table, key, by):
        self.table = table
        self.key = key
        self.by = by


class NoQuestion(StoreError):
    def __init__(self, place):
        self.place = place


class NoColumn(StoreError):
    def __init__(self, name):
        self.name = name


class Alike(StoreError):
    def __init__(self, name):
        self.name = name


class WrongKind(StoreError):
    def __init__(self, name):
        self.name = name


class NoStep(StoreError):
    def __init__(self, place):
        self.place = place


class NoPlan(StoreError):
    pass


class NoLine(StoreError):
    pass
