"""Questions as texts, read and written [76] to [79], and [4], [5] of them."""

import random
import re
import unittest

from helper import Case, Growth, ODD_THINGS, SIGNS
from planstore.asking import question_text, read_question
from planstore.conditions import And, Compare, Not, Or
from planstore.errors import NoQuestion
from planstore.trees import Choose, First, Group, Keep, Product, Scan, Sort

P = Scan("people", "people")
Q = Scan("people", "q")
C = Scan("cities", "c")


def compare(left, sign, value):
    return Compare(left, sign, ("value", value))


def columns(left, sign, right):
    return Compare(left, sign, ("column", right))


# Questions with each step; some words of steps stand in them as names, too.
QUESTIONS = [
    "table people",
    "table people as p",
    "( table people )",
    "( ( table as as as ) | first 0 )",
    "table people | choose people.age > 30 and not people.city = 'rome' or ( a <> -5 or not not b <= c.d )",
    "table t | choose not ( not = 1 and not not = 2 )",
    "table people | keep people.id people.age",
    "table people | with table cities as c | with ( table people as q | first 1 )",
    "table people | join table cities as c on people.city = c.name",
    "table people | join ( table cities | sort cities.name ) on a = b and and = and and c = d | first 10",
    "table people | group people.city : count many , sum people.age ages , least a b , greatest c.d e",
    "table people | group : count n | group n :",
    "table people | group a b.c : | keep a",
    "table people | sort people.age down , people.id , down down , down",
    "table people | first 1000 | first 0",
    "table table | keep table as on with | sort sort , first | group group : count count , sum sum sum",
    "( table a | with ( table b | join ( table c ) on a.a = c.c ) | choose ( ( a.a = b.b ) ) ) | first 7",
]


class ReadCase(Case):
    def reads(self, text, tree):
        self.same(read_question(text).told(), tree.told())

    def no(self, text, place):
        self.refused(NoQuestion, {"place": place}, read_question, text)


class ReadTest(ReadCase):
    def test_sources(self):
        self.reads("table people", P)
        self.reads("table people as q", Q)
        self.reads("table people as people", P)
        self.reads("( table people as q )", Q)
        self.reads("( ( ( table people ) ) )", P)
        self.reads("table table as as", Scan("table", "as"))
        self.reads("table as", Scan("as", "as"))
        self.reads("table as as as", Scan("as", "as"))

    def test_steps(self):
        self.reads("table people | choose a = 1", Choose(compare("a", "=", 1), P))
        self.reads("table people | keep a", Keep(["a"], P))
        self.reads("table people | keep a b.c a", Keep(["a", "b.c", "a"], P))
        self.reads("table people | with table cities as c", Product(P, C))
        self.reads("table people | with ( table cities as c )", Product(P, C))
        self.reads("table people | with ( table cities as c | first 1 )", Product(P, First(1, C)))
        self.reads("table people | sort a", Sort([("a", False)], P))
        self.reads("table people | sort a down , b , a", Sort([("a", True), ("b", False), ("a", False)], P))
        self.reads("table people | sort down down , down", Sort([("down", True), ("down", False)], P))
        for many in (0, 1, 9, 10, 999, 1000):
            self.reads(f"table people | first {many}", First(many, P))

    def test_groups(self):
        self.reads("table people | group a : count n", Group(["a"], [("count", None, "n")], P))
        self.reads("table people | group a b.c :", Group(["a", "b.c"], [], P))
        self.reads("table people | group : sum a b , least c.d e , greatest f g , count h",
                   Group([], [("sum", "a", "b"), ("least", "c.d", "e"), ("greatest", "f", "g"), ("count", None, "h")],
                         P))
        self.reads("table people | group count : count count , sum count sum",
                   Group(["count"], [("count", None, "count"), ("sum", "count", "sum")], P))
        self.reads("table people | group a : | group b :", Group(["b"], [], Group(["a"], [], P)))

    def test_joins(self):
        one, two, three = columns("a", "=", "b"), columns("c.d", "=", "e.f"), columns("and", "=", "on")
        self.reads("table people | join table cities as c on a = b", Choose(one, Product(P, C)))
        self.reads("table people | join table cities as c on a = b and c.d = e.f", Choose(And(one, two), Product(P, C)))
        self.reads("table people | join table cities as c on a = b and c.d = e.f and and = on",
                   Choose(And(And(one, two), three), Product(P, C)))
        self.reads("table people | join ( table cities as c | first 1 ) on a = b | first 2",
                   First(2, Choose(one, Product(P, First(1, C)))))
        self.reads("table people | join table cities as c on not = b", Choose(columns("not", "=", "b"), Product(P, C)))

    def test_steps_over_what_is_there_so_far(self):
        self.reads("( table people | first 3 ) | sort a | with table cities as c | keep b | choose a = 1 | first 2",
                   First(2, Choose(compare("a", "=", 1), Keep(["b"], Product(Sort([("a", False)], First(3, P)), C)))))
        self.reads("table people | with ( table cities as c | with table people as q ) | with table a",
                   Product(Product(P, Product(C, Q)), Scan("a", "a")))

    def test_a_tree_is_made_each_time(self):
        one, other = read_question(QUESTIONS[4]), read_question(QUESTIONS[4])
        self.assertIsNot(one, other)
        self.same(one.told(), other.told())


class CondTest(ReadCase):
    def reads_cond(self, text, cond):
        self.reads("table people | choose " + text, Choose(cond, P))

    def test_compares(self):
        for sign in SIGNS:
            self.reads_cond(f"a {sign} 7", compare("a", sign, 7))
            self.reads_cond(f"a.b {sign} c", columns("a.b", sign, "c"))
            self.reads_cond(f"a {sign} 'word'", compare("a", sign, "word"))

    def test_atoms(self):
        for text, atom in (("0", ("value", 0)), ("-1", ("value", -1)), ("1000000000", ("value", 10 ** 9)),
                           ("-1000000000", ("value", -10 ** 9)), ("'a'", ("value", "a")),
                           ("'abcdefgh'", ("value", "abcdefgh")),
                           ("a", ("column", "a")), ("abcdefgh.abcdefgh", ("column", "abcdefgh.abcdefgh")),
                           ("not", ("column", "not")), ("and", ("column", "and")), ("'not'", ("value", "not"))):
            self.reads_cond("a = " + text, Compare("a", "=", atom))
        for wrong in ("1000000001", "-1000000001", "-0", "+1", "07", "00", "1.5", "1e3", "''", "'", "'A'",
                      "'ninelette'", "'a", "a'",
                      "'a.b'", "\"a\"", "a.", ".a", "a.b.c", "A", "ninelette", "'a''b'", "\u0661", "(", ")", "=", "-",
                      "", "'7'", "-a",
                      "9" * 60, "'a\n'", "a\n", "a\tb"):
            self.no(f"table t | choose a = {wrong}", 6)
            self.no(f"table t | choose a = {wrong} and", 6)

    def test_how_they_tie(self):
        a, b, c, d = (compare(name, "=", place) for place, name in enumerate("abcd"))
        for text, cond in (
                ("A and B", And(a, b)), ("A or B", Or(a, b)), ("not A", Not(a)), ("( A )", a), ("( ( A ) )", a),
                ("A and B and C", And(And(a, b), c)), ("A and ( B and C )", And(a, And(b, c))),
                ("A or B or C", Or(Or(a, b), c)),
                ("A or ( B or C )", Or(a, Or(b, c))), ("A or B and C", Or(a, And(b, c))),
                ("A and B or C", Or(And(a, b), c)),
                ("( A or B ) and C", And(Or(a, b), c)), ("A and ( B or C )", And(a, Or(b, c))),
                ("not A and B", And(Not(a), b)),
                ("not A or B", Or(Not(a), b)), ("not ( A and B )", Not(And(a, b))),
                ("A and not B or C", Or(And(a, Not(b)), c)),
                ("not not A", Not(Not(a))), ("not ( not A or B ) and C", And(Not(Or(Not(a), b)), c)),
                ("A or B and C or D", Or(Or(a, And(b, c)), d)), ("A and B or C and D", Or(And(a, b), And(c, d))),
                ("( ( A or B ) and C or D )", Or(And(Or(a, b), c), d)), ("not ( not ( not A ) )", Not(Not(Not(a))))):
            for place, name in enumerate("ABCD"):
                text = text.replace(name, f"{name.lower()} = {place}")
            self.reads_cond(text, cond)

    def test_not_as_a_columns_name(self):
        is_one = compare("not", "=", 1)
        for sign in SIGNS:
            self.reads_cond(f"not {sign} 1", compare("not", sign, 1))
        self.reads_cond("not not = 1", Not(is_one))
        self.reads_cond("not not not = 1", Not(Not(is_one)))
        self.reads_cond("a = not and not = 1", And(columns("a", "=", "not"), is_one))
        self.reads_cond("( not = 1 ) or not ( not = 1 )", Or(is_one, Not(is_one)))
        self.reads_cond("not = not", columns("not", "=", "not"))
        self.reads_cond("not a = not or not not = not",
                        Or(Not(columns("a", "=", "not")), Not(columns("not", "=", "not"))))
        self.no("table t | choose not", 5)
        self.no("table t | choose not not", 6)
        self.no("table t | choose not =", 6)
        self.no("table t | choose not )", 5)
        self.no("table t | choose not and = 1 and", 9)
        self.no("table t | choose not | first 1", 5)


class PlacesTest(ReadCase):
    def test_places_told_by_hand(self):
        for text, place in (
                ("", 0), (" ", 0), ("people", 0), ("table", 1), ("table ", 1), ("Table people", 0), ("table People", 1),
                ("table people people", 2), ("table people as", 3), ("table people as 7", 3),
                ("table people as a.b", 3),
                ("table a.b", 1), ("table ninelette", 1), (" table people", 0), ("table  people", 1),
                ("table people ", 2),
                ("table people |", 3), ("table people | ", 3), ("table people || first 1", 2),
                ("table people | table cities", 3),
                ("table people | sorted a", 3), ("table people )", 2), ("(", 1), ("( )", 1), ("( table people", 3),
                ("( table people ) )", 4), ("table people | choose", 4), ("table people | choose a", 5),
                ("table people | choose a =", 6), ("table people | choose a = 1 a", 7),
                ("table people | choose a == 1", 5),
                ("table people | choose a = 1 and", 8), ("table people | choose ( a = 1", 8),
                ("table people | choose ( a = 1 | first 1", 8),
                ("table people | choose a = 1 )", 7), ("table people | choose 1 = a", 4),
                ("table people | choose 'a' = a", 4),
                ("table people | choose ( table people )", 6), ("table people | choose = 1", 4),
                ("table people | choose a = 1 not", 7),
                ("table people | keep", 4), ("table people | keep a , b", 5), ("table people | keep 7", 4),
                ("table people | keep | first 1", 4),
                ("table people | with", 4), ("table people | with cities", 4), ("table people | with table", 5),
                ("table people | with table cities on a = b", 6), ("table people | join table cities", 6),
                ("table people | join table cities as c a = b", 8), ("table people | join table cities on", 7),
                ("table people | join table cities on a", 8), ("table people | join table cities on a <> b", 8),
                ("table people | join table cities on a = 7", 9), ("table people | join table cities on a = 'b'", 9),
                ("table people | join table cities on a = b or c = d", 10),
                ("table people | join table cities on a = b and", 11),
                ("table people | join table cities on ( a = b )", 7), ("table people | join table cities | first 1", 6),
                ("table people | join table cities on not a = b", 8),
                ("table people | join table cities on a = b )", 10),
                ("table people | group", 4), ("table people | group a", 5), ("table people | group a count n", 7),
                ("table people | group :", 5), ("table people | group : | first 1", 5),
                ("( table people | group : )", 6),
                ("table people | group : n", 5), ("table people | group a : n", 6),
                ("table people | group a : count", 7),
                ("table people | group a : count a.b", 7), ("table people | group a : count n ,", 9),
                ("table people | group a : count n , | first 1", 9), ("table people | group a : , count n", 6),
                ("table people | group a : sum", 7), ("table people | group a : sum n", 8),
                ("table people | group a : sum n m o", 9),
                ("table people | group a : sum n a.b", 8), ("table people | group a : count n m", 8),
                ("table people | group a , b : count n", 5), ("table people | group a : avg b c", 6),
                ("table people | group 7 : count n", 4),
                ("table people | sort", 4), ("table people | sort a b", 5), ("table people | sort a up", 5),
                ("table people | sort a ,", 6),
                ("table people | sort a down down", 6), ("table people | sort , a", 4),
                ("table people | sort a , | first 1", 6),
                ("table people | first", 4), ("table people | first 1001", 4), ("table people | first 07", 4),
                ("table people | first -1", 4),
                ("table people | first 1 1", 5), ("table people | first one", 4), ("table people | first 00", 4),
                ("table people | first +1", 4),
                ("table people | first -0", 4), ("table people | first 10000", 4), ("table people | first 1.0", 4),
                ("table people | first | first 1", 4), ("table people\n| first 1", 1), ("table people | first 1;", 4)):
            self.no(text, place)

    def test_blanks_more(self):
        for text in QUESTIONS:
            words = text.split(" ")
            for place in range(len(words) + 1):
                self.no(" ".join(words[:place] + [""] + words[place:]), place)
                self.no(" ".join(words[:place] + ["", ""] + words[place:]), place)

    def test_a_wrong_word_in_each_place(self):
        for text in QUESTIONS:
            words = text.split(" ")
            for place in range(len(words)):
                for wrong in ("A", "%", "ninelette", "a.b.c", "==", "\u00e4", "''", "-0", "((", "a,"):
                    self.no(" ".join(words[:place] + [wrong] + words[place + 1:]), place)
                    self.no(" ".join(words[:place] + [wrong]), place)

    def test_what_is_no_text(self):
        for thing in ODD_THINGS + [("table people",), ["table", "people"], b"table people", P]:
            self.no(thing, 0)


# The words of a question once more, as a grammar: a rule's parts are rules' names, or patterns of one word.
NAME = "[a-z]{1,8}"
COLUMN = NAME + r"(\." + NAME + ")?"
GRAMMAR = {
    "QUESTION": [["SOURCE", "STEPS"]],
    "STEPS": [[], [r"~\|", "STEP", "STEPS"]],
    "SOURCE": [["~table", "~" + NAME], ["~table", "~" + NAME, "~as", "~" + NAME], [r"~\(", "QUESTION", r"~\)"]],
    "STEP": [["~choose", "COND"], ["~keep", "COLS"], ["~with", "SOURCE"], ["~join", "SOURCE", "~on", "PAIRS"],
             ["~group", "COLS", "~:"], ["~group", "COLS", "~:", "SUMS"], ["~group", "~:", "SUMS"], ["~sort", "KEYS"],
             ["~first", "~0|[1-9][0-9]{0,2}|1000"]],
    "COLS": [["~" + COLUMN], ["~" + COLUMN, "COLS"]],
    "PAIRS": [["PAIR"], ["PAIR", "~and", "PAIRS"]],
    "PAIR": [["~" + COLUMN, "~=", "~" + COLUMN]],
    "SUMS": [["SUM"], ["SUM", "~,", "SUMS"]],
    "SUM": [["~count", "~" + NAME], ["~sum|least|greatest", "~" + COLUMN, "~" + NAME]],
    "KEYS": [["KEY"], ["KEY", "~,", "KEYS"]],
    "KEY": [["~" + COLUMN], ["~" + COLUMN, "~down"]],
    "COND": [["~" + COLUMN, "~=|<>|<|<=|>|>=", "ATOM"], ["~not", "COND"], ["COND", "~and", "COND"],
             ["COND", "~or", "COND"],
             [r"~\(", "COND", r"~\)"]],
    "ATOM": [["~" + COLUMN], ["~'" + NAME + "'"], ["~0|-?[1-9][0-9]{0,8}|-?1000000000"]],
}


def chart_places(words):
    """The place of the first word that can't stand, or how many words there are and whether they are a question.

    All readings are followed side by side: an item is a rule's name, the parts to come, and where it began."""
    charts = []
    wanted = [("QUESTION", tuple(parts), 0) for parts in GRAMMAR["QUESTION"]]
    for place in range(len(words) + 1):
        chart, todo = set(), list(wanted)
        while todo:
            item = todo.pop()
            if item in chart:
                continue
            chart.add(item)
            name, parts, begun = item
            if parts and not parts[0].startswith("~"):
                todo.extend((parts[0], tuple(others), place) for others in GRAMMAR[parts[0]])
                # a rule that was ended here already, as the steps of none
                todo.extend((name, parts[1:], begun) for other in chart if other == (parts[0], (), place))
            elif not parts:
                for other in list(charts[begun] if begun < place else chart):
                    if other[1] and other[1][0] == name:
                        todo.append((other[0], other[1][1:], other[2]))
        charts.append(chart)
        if place == len(words):
            return place, ("QUESTION", (), 0) in chart
        wanted = [(name, parts[1:], begun) for name, parts, begun in chart
                  if parts and parts[0].startswith("~") and re.fullmatch(parts[0][1:], words[place])]
        if not wanted:
            return place, False
    return None


class GrammarTest(ReadCase):
    """The place of each refusal, against a reader that follows all readings of the grammar side by side."""

    def looked_at(self, words):
        place, whole = chart_places(words)
        text = " ".join(words)
        if whole:
            tree = read_question(text)
            self.same(read_question(question_text(tree)).told(), tree.told())
        else:
            self.no(text, place)

    def test_every_beginning(self):
        for text in QUESTIONS:
            words = text.split(" ")
            for many in range(1, len(words) + 1):
                self.looked_at(words[:many])

    def test_words_changed_put_in_and_left_out(self):
        known = sorted({word for text in QUESTIONS for word in text.split(" ")})
        chance = random.Random(11)
        for text in QUESTIONS:
            words = text.split(" ")
            for place in range(len(words)):
                self.looked_at(words[:place] + words[place + 1:] or [""])
                for word in chance.sample(known, 8):
                    self.looked_at(words[:place] + [word] + words[place + 1:])
                    self.looked_at(words[:place] + [word] + words[place:])

    def test_words_by_chance(self):
        chance = random.Random(4)
        known = "table a as | choose keep with join on group : , count sum sort down first 3 ( ) not and or = < 'a'"
        known = known.split(" ") + ["a.b"]
        for turn in range(300):
            words = ["table", "a"]
            while len(words) < 16:
                word = chance.choice(known)
                # mostly words that can stand, as else most texts end at once
                if chance.random() < 0.05 or chart_places(words + [word])[0] > len(words):
                    words.append(word)
                    if chance.random() < 0.05:
                        break
            self.looked_at(words)


class BoundsTest(ReadCase):
    def padded(self, head, signs):
        """A question of just so many signs, that begins so."""
        text = head
        while len(text) + 4 < signs:
            text += " aaa" if (signs - len(text)) > 20 else " a"
        return text + " " + "b" * (signs - len(text) - 1)

    def test_how_many_signs(self):
        text = self.padded("table people | keep", 2000)
        self.same(len(text), 2000)
        self.same(read_question(text).told()[0], "keep")
        self.no(self.padded("table people | keep", 2001), 0)
        self.no("table people " + "x" * 1987, 2)
        self.no("table people " + "x" * 1988, 0)
        self.no("table people" + " " * 1988, 2)
        self.no("table people" + " " * 1989, 0)
        self.no("x" * 100000, 0)

    def test_how_many_brackets_of_sources(self):
        text = "( " * 24 + "table people" + " )" * 24
        self.reads(text, P)
        self.no("( " * 25 + "table people" + " )" * 25, 24)
        self.no("( " * 24 + "(", 24)
        self.no("( " * 24 + "people", 24)
        self.no("( " * 24, 24)
        self.no("( " * 900, 24)
        self.reads("( " * 24 + "table people" + " )" * 23 + " | with ( table cities as c ) )", Product(P, C))
        self.no("( " * 24 + "table people" + " )" * 23 + " | with " + "( " * 24 + "table cities", 24 + 2 + 23 + 2 + 23)
        self.no("( " * 24 + "table people | with ( table cities )" + " )" * 24, 24 + 2 + 2)

    def test_how_many_brackets_of_conditions(self):
        is_one = compare("a", "=", 1)
        self.reads("table people | choose " + "( " * 24 + "a = 1" + " )" * 24, Choose(is_one, P))
        self.no("table people | choose " + "( " * 25 + "a = 1" + " )" * 25, 28)
        self.no("( ( table people | choose " + "( " * 23 + "a = 1" + " )" * 25, 28)
        self.reads("( ( table people | choose " + "( " * 22 + "a = 1" + " )" * 24, Choose(is_one, P))
        self.reads("( ( table people | choose " + "( " * 22 + "a = 1" + " )" * 22 + " or ( a = 1 ) ) )",
                   Choose(Or(is_one, is_one), P))

    def test_how_deep_a_tree_is(self):
        self.reads("table people" + " | first 1" * 11,
                   read_question("( table people" + " | first 1" * 5 + " )" + " | first 1" * 6))
        for many in (12, 13, 40, 190):
            self.no("table people" + " | first 1" * many, 0)
        self.no("table people | with ( table people" + " | first 1" * 11 + " )", 0)
        self.assertEqual(read_question("table a | with ( table b" + " | first 1" * 10 + " )").told()[0], "product")
        self.no("table people | with ( table people" + " | first 1" * 10 + " ) | first 1", 0)
        # a join is two nodes
        self.no("table people" + " | first 1" * 10 + " | join table b on a = b", 0)
        self.assertEqual(read_question("table people" + " | first 1" * 9 + " | join table b on a = b").told()[0],
                         "choose")

    def test_how_many_nodes(self):
        wide = "( table a | with table b ) | with ( table c | with table d )"
        for turn in range(2):
            wide = f"( {wide} ) | with ( {wide} )"
        self.assertEqual(str(read_question(wide).told()).count("'scan'"), 16)
        more = " | with ( table e | with ( table f | with ( table g | with table h ) ) )"
        self.assertEqual(len(re.findall("'(scan|product|first)'",
                                        str(read_question(wide + more + " | first 1").told()))), 40)
        self.no(wide + more + " | first 1 | first 1", 0)
        self.no(wide + more + " | with table i", 0)
        self.no(f"( {wide} ) | with ( {wide} )", 0)

    def test_how_deep_a_condition_is(self):
        self.assertEqual(read_question("table people | choose " + "not " * 11 + "a = 1").told()[0], "choose")
        for many in (12, 13, 100, 490):
            self.no("table people | choose " + "not " * many + "a = 1", 0)
        for word in ("and", "or"):
            self.assertEqual(read_question("table people | choose a = 1" + f" {word} a = 1" * 11).told()[0], "choose")
            self.no("table people | choose a = 1" + f" {word} a = 1" * 12, 0)
            self.no("table people | choose a = 1" + f" {word} a = 1" * 150, 0)
            self.no("table people | choose a = 1" + f" {word} ( a = 1" * 12 + " )" * 12, 0)
            nested = "table people | choose a = 1" + f" {word} ( a = 1" * 11 + " )" * 11
            self.assertEqual(read_question(nested).told()[0], "choose")
        self.assertEqual(read_question("table people | join table b on a = b" + " and a = b" * 11).told()[0], "choose")
        self.no("table people | join table b on a = b" + " and a = b" * 12, 0)
        self.no("table people | choose " + "not " * 12 + "a = 1 | first 1", 0)
        self.no("( table people | choose " + "not " * 12 + "a = 1 ) | with table b", 0)
        self.no("table b | with ( table people | choose " + "not " * 12 + "a = 1 )", 0)

    def test_bounds_go_behind_all_else(self):
        deep = "table people" + " | first 1" * 20
        self.no(deep + " |", 2 + 60 + 1)
        self.no(deep + " | first x", 2 + 60 + 2)
        self.no("table people | choose " + "not " * 20 + "a = 1 )", 27)
        self.no("table people | choose " + "not " * 20 + "a =", 26)


class WriteTest(ReadCase):
    def test_as_it_is_written(self):
        for text in ("table people", "table people as p", "table people | with table cities as c",
                     "table people | with ( table cities | first 3 ) | keep a b",
                     "table people | choose ( a = 1 or b = 'x' ) and not ( c <> d and e < -4 )",
                     "table people | group a b : count n , sum c d | group : least e f | group g :",
                     "table people | sort a down , b | first 1000"):
            self.same(question_text(read_question(text)), text)

    def test_written_otherwise(self):
        for text, other in (
                ("( table people as people )", "table people"),
                ("( table people | first 1 ) | first 2", "table people | first 1 | first 2"),
                ("table people | with ( table cities )", "table people | with table cities"),
                ("table people | join table cities on a = b and c = d",
                 "table people | with table cities | choose a = b and c = d"),
                ("table people | choose ( a = 1 ) and ( ( b = 2 and c = 3 ) )",
                 "table people | choose a = 1 and ( b = 2 and c = 3 )"),
                ("table people | choose ( a = 1 and b = 2 ) or ( not ( c = 3 ) )",
                 "table people | choose a = 1 and b = 2 or not c = 3")):
            self.same(question_text(read_question(text)), other)

    def test_trees_come_again_from_their_texts(self):
        chance = random.Random(9)
        for turn in range(400):
            tree = Growth(chance, 6).tree(7)
            text = question_text(tree)
            if len(text) <= 2000:
                self.same(read_question(text).told(), tree.told())
                self.same(question_text(read_question(text)), text)

    def test_brackets_stand_just_where_they_are_needed(self):
        chance = random.Random(2)
        for turn in range(150):
            tree = Choose(Growth(chance).cond([("a", "number"), ("not", "number"), ("b.c", "word")], 5), P)
            words = question_text(tree).split(" ")
            self.same(read_question(" ".join(words)).told(), tree.told())
            for place, word in enumerate(words):
                if word == "(":
                    end = self.bracket_behind(words, place)
                    without = words[:place] + words[place + 1:end] + words[end + 1:]
                    self.assertNotEqual(read_question(" ".join(without)).told(), tree.told())

    def bracket_behind(self, words, place):
        many = 0
        for end in range(place, len(words)):
            many += {"(": 1, ")": -1}.get(words[end], 0)
            if many == 0:
                return end
        return None

    def test_the_deepest_brackets_are_read_again(self):
        cond = compare("a", "=", 1)
        for turn in range(11):
            cond = And(compare("a", "=", 1), cond)
        tree = Choose(cond, Scan("a", "a"))
        for turn in range(10):
            tree = Product(Scan("a", "a"), tree)
        self.same(question_text(tree).count("("), 10 + 10)
        self.same(read_question(question_text(tree)).told(), tree.told())

    def test_nothing_is_changed(self):
        for text in QUESTIONS:
            tree = read_question(text)
            told = tree.told()
            self.same(question_text(tree), question_text(tree))
            self.same(tree.told(), told)


if __name__ == "__main__":
    unittest.main()
