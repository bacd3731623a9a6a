"""Whole numbers, names and values, and how values are written."""

LETTERS = "abcdefghijklmnopqrstuvwxyz"
FIGURES = "0123456789"
LONGEST_NAME = 8
GREATEST = 1000000000
MOST_FIGURES = 10


def is_whole(thing):
    return isinstance(thing, int) and not isinstance(thing, bool)


def has_only(signs, text):
    return all([sign in signs for sign in text])


def is_name(thing):
    if not isinstance(thing, str):
        return False
    return 1 <= len(thing) <= LONGEST_NAME and has_only(LETTERS, thing)


# Of a question: ALIAS.COLUMN, or a made name, which has no point.
def is_column_name(thing):
    if not isinstance(thing, str):
        return False
    names = thing.split(".")
    return len(names) <= 2 and all([is_name(name) for name in names])


def is_value(kind, thing):
    if kind == "number":
        return is_whole(thing) and -GREATEST <= thing <= GREATEST
    return kind == "word" and is_name(thing)


def value_text(value):
    return str(value)


def number_in(text):
    figures = text[1:] if text.startswith("-") else text
    # int refuses texts of very many figures, and takes figures of other scripts
    if not 1 <= len(figures) <= MOST_FIGURES or not has_only(FIGURES, figures):
        return None
    number = int(text)
    # a number has one text alone, so -0 and 07 are none
    if value_text(number) != text or not is_value("number", number):
        return None
    return number


def value_in(kind, text):
    if not isinstance(text, str):
        return None
    if kind == "number":
        return number_in(text)
    return text if is_value(kind, text) else None
