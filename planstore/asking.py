"""Questions as texts: read as trees, and written."""

from planstore.bounds import MOST_FIRST, is_within_bounds
from planstore.conditions import SIGNS, And, Compare, Not, Or
from planstore.errors import NoQuestion
from planstore.trees import SUM_WORDS, Choose, First, Group, Keep, Product, Scan, Sort
from planstore.words import is_column_name, is_name, value_in

MOST_SIGNS = 2000
MOST_BRACKETS = 24


class Words:
    def __init__(self, text):
        self.words = text.split(" ")
        self.place = 0
        self.brackets = 0

    # None behind the last word; a word may have no signs.
    def word_here(self):
        return self.words[self.place] if self.place < len(self.words) else None

    def word_behind(self):
        return self.words[self.place + 1] if self.place + 1 < len(self.words) else None

    # All words ahead could stand: so the one here is the first that can't, or one more is needed.
    def need(self, truth):
        if not truth:
            raise NoQuestion(self.place)

    def taken(self):
        word = self.word_here()
        self.place += 1
        return word

    def take(self, word):
        self.need(self.word_here() == word)
        self.place += 1

    def take_name(self):
        self.need(is_name(self.word_here()))
        return self.taken()

    def take_column(self):
        self.need(is_column_name(self.word_here()))
        return self.taken()

    def take_sign(self):
        self.need(self.word_here() in SIGNS)
        return self.taken()

    def take_many(self):
        many = value_in("number", self.word_here())
        self.need(many is not None and 0 <= many <= MOST_FIRST)
        self.place += 1
        return many

    def take_atom(self):
        atom = atom_in(self.word_here())
        self.need(atom is not None)
        self.place += 1
        return atom

    def take_open_bracket(self):
        self.need(self.brackets < MOST_BRACKETS)
        self.take("(")
        self.brackets += 1

    def take_close_bracket(self):
        self.take(")")
        self.brackets -= 1


def atom_in(word):
    if is_column_name(word):
        return ("column", word)
    number = value_in("number", word)
    if number is not None:
        return ("value", number)
    if word is not None and is_name(word[1:-1]) and word == "'" + word[1:-1] + "'":
        return ("value", word[1:-1])
    return None


def compare_here(words):
    left = words.take_column()
    sign = words.take_sign()
    return Compare(left, sign, words.take_atom())


def alone_here(words):
    nots = 0
    while words.word_here() == "not" and words.word_behind() not in SIGNS:
        words.take("not")
        nots += 1
    if words.word_here() == "(":
        words.take_open_bracket()
        cond = cond_here(words)
        words.take_close_bracket()
    else:
        cond = compare_here(words)
    for turn in range(nots):
        cond = Not(cond)
    return cond


def and_here(words):
    cond = alone_here(words)
    while words.word_here() == "and":
        words.take("and")
        cond = And(cond, alone_here(words))
    return cond


def cond_here(words):
    cond = and_here(words)
    while words.word_here() == "or":
        words.take("or")
        cond = Or(cond, and_here(words))
    return cond


def pair_here(words):
    left = words.take_column()
    words.take("=")
    return Compare(left, "=", ("column", words.take_column()))


def sum_here(words):
    words.need(words.word_here() in SUM_WORDS)
    word = words.taken()
    name = None if word == "count" else words.take_column()
    return (word, name, words.take_name())


def sort_key_here(words):
    name = words.take_column()
    down = words.word_here() == "down"
    if down:
        words.take("down")
    return (name, down)


def choose_step(words, tree):
    return Choose(cond_here(words), tree)


def keep_step(words, tree):
    kept = [words.take_column()]
    while is_column_name(words.word_here()):
        kept.append(words.take_column())
    return Keep(kept, tree)


def with_step(words, tree):
    return Product(tree, source_here(words))


def join_step(words, tree):
    other = source_here(words)
    words.take("on")
    cond = pair_here(words)
    while words.word_here() == "and":
        words.take("and")
        cond = And(cond, pair_here(words))
    return Choose(cond, Product(tree, other))


def group_step(words, tree):
    by = []
    while is_column_name(words.word_here()):
        by.append(words.take_column())
    words.take(":")
    sums = []
    # a group is not without both, so where it goes by nothing a sum is needed
    if by == [] or words.word_here() in SUM_WORDS:
        sums.append(sum_here(words))
        while words.word_here() == ",":
            words.take(",")
            sums.append(sum_here(words))
    return Group(by, sums, tree)


def sort_step(words, tree):
    by = [sort_key_here(words)]
    while words.word_here() == ",":
        words.take(",")
        by.append(sort_key_here(words))
    return Sort(by, tree)


def first_step(words, tree):
    return First(words.take_many(), tree)


STEPS = {"choose": choose_step, "keep": keep_step, "with": with_step, "join": join_step, "group": group_step,
         "sort": sort_step, "first": first_step}


def source_here(words):
    if words.word_here() == "(":
        words.take_open_bracket()
        tree = question_here(words)
        words.take_close_bracket()
        return tree
    words.take("table")
    table = words.take_name()
    if words.word_here() != "as":
        return Scan(table, table)
    words.take("as")
    return Scan(table, words.take_name())


def question_here(words):
    tree = source_here(words)
    while words.word_here() == "|":
        words.take("|")
        words.need(words.word_here() in STEPS)
        step = STEPS[words.taken()]
        tree = step(words, tree)
    return tree


def read_question(text):
    if not isinstance(text, str) or len(text) > MOST_SIGNS:
        raise NoQuestion(0)
    words = Words(text)
    tree = question_here(words)
    words.need(words.word_here() is None)
    if not is_within_bounds(tree):
        raise NoQuestion(0)
    return tree


def question_text(tree):
    return tree.text()
