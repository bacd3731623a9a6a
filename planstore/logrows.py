"""Rows of the log: the texts of what was set, cut and kept, and what texts say."""

from planstore.words import value_in, value_text


def row_text(number, stuff):
    words = [value_text(number), stuff[0]]
    if stuff[0] == "set":
        words.append(stuff[1])
        words.extend([value_text(value) for value in stuff[2]])
    if stuff[0] == "cut":
        words.append(stuff[1])
        words.append(value_text(stuff[2]))
    if stuff[0] == "keep":
        words.append(value_text(stuff[1]))
    return " ".join(words) + ";"


# A count goes up to 10 ** 9, as a number among values does.
def count_in(text):
    number = value_in("number", text)
    return number if number is not None and number >= 1 else None


def values_in(columns, words):
    if len(words) != len(columns):
        return None
    values = [value_in(column[1], word) for column, word in zip(columns, words)]
    return None if None in values else tuple(values)


def set_in(columns, table, words):
    row = values_in(columns, words)
    return None if row is None else ("set", table, row)


def cut_in(columns, table, words):
    key = values_in(columns[:1], words)
    return None if key is None else ("cut", table, key[0])


def keep_in(words):
    many = count_in(words[0]) if len(words) == 1 else None
    return None if many is None else ("keep", many)


def stuff_in(schema, words):
    if words[0] == "keep":
        return keep_in(words[1:])
    if len(words) < 2 or words[1] not in schema.table_names():
        return None
    columns = schema.columns_of(words[1])
    if words[0] == "set":
        return set_in(columns, words[1], words[2:])
    if words[0] == "cut":
        return cut_in(columns, words[1], words[2:])
    return None


def row_in(schema, thing):
    if not isinstance(thing, str) or not thing.endswith(";"):
        return None
    words = thing[:-1].split(" ")
    number = count_in(words[0])
    if number is None or len(words) < 2:
        return None
    stuff = stuff_in(schema, words[1:])
    return None if stuff is None else (number, stuff)


def whole_rows(schema, texts):
    rows = []
    for text in texts:
        said = row_in(schema, text)
        if said is None or (rows and said[0] != rows[-1][0] + 1):
            return rows
        rows.append(said)
    return rows


def kept_many_rows(schema, texts):
    kept = 0
    for place, said in enumerate(whole_rows(schema, texts)):
        if said[1][0] == "keep":
            kept = place + 1
    return kept
