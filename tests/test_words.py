"""Whole numbers, names, values and their texts [2], [11], [12]."""

import unittest

from helper import Case, ODD_THINGS
from planstore.words import is_name, is_value, is_whole, value_in, value_text

BOUND = 10 ** 9
LETTERS = "abcdefghijklmnopqrstuvwxyz"
NO_NAMES = [
    "", "abcdefghi", "A", "aB", "Rome", "a1", "1", "a b", " a", "a ", "a\n", "\n", "a_b", "a.b", "a-b",
    "\u00e4", "\u00df", "\u03b1", "\u0430", "\uff41", "`", "{", "@", "[",
]
NO_NUMBERS = [
    "", "-", "--1", "-0", "+0", "+1", "00", "07", "-07", "01", "1 ", " 1", "1\n", "\n1", "1_0", "1.0", "1e3",
    "0x1", "a", "one", "- 1", "1-", "1000000001", "-1000000001", "10000000000", "01000000000",
    "\u0663", "\u00b2", "1\u0663", "\uff11", "1" * 40, "9" * 5000, "-" + "9" * 5000, "0" * 5000,
]


class WholeTest(Case):
    def test_ints_are_whole(self):
        for thing in (0, 1, -1, 7, BOUND, -BOUND, BOUND + 1, 10 ** 39, -10 ** 39):
            self.assertIs(is_whole(thing), True)

    def test_truths_are_none(self):
        self.assertIs(is_whole(True), False)
        self.assertIs(is_whole(False), False)

    def test_other_things_are_none(self):
        for thing in (None, 1.0, 0.0, "1", "", b"1", [], [1], (), (1,), {}, {1: 1}, set(), 1j, object(), int):
            self.assertIs(is_whole(thing), False)


class NameTest(Case):
    def test_each_small_letter(self):
        for letter in LETTERS:
            self.assertIs(is_name(letter), True)
            self.assertIs(is_name("a" + letter), True)

    def test_lengths(self):
        for many in range(1, 9):
            self.assertIs(is_name("abcdefghi"[:many]), True)
        self.assertIs(is_name(""), False)
        self.assertIs(is_name("abcdefghi"), False)
        self.assertIs(is_name("a" * 1000), False)

    def test_other_texts(self):
        for text in NO_NAMES:
            self.assertIs(is_name(text), False, text)

    def test_other_things(self):
        for thing in (None, 1, True, 1.5, b"rome", [], ["a"], ("a",), {"a": 1}, {"a"}, object()):
            self.assertIs(is_name(thing), False)


class ValueTest(Case):
    def test_numbers(self):
        for thing in (0, 1, -1, 12, BOUND, -BOUND, BOUND - 1, 1 - BOUND):
            self.assertIs(is_value("number", thing), True)
            self.assertIs(is_value("word", thing), False)

    def test_one_beyond_the_bounds(self):
        for thing in (BOUND + 1, -BOUND - 1, 10 ** 39, -10 ** 39):
            self.assertIs(is_value("number", thing), False)

    def test_words(self):
        for thing in ("a", "z", "rome", "abcdefgh"):
            self.assertIs(is_value("word", thing), True)
            self.assertIs(is_value("number", thing), False)

    def test_no_words(self):
        for text in NO_NAMES:
            self.assertIs(is_value("word", text), False, text)

    def test_other_things(self):
        for thing in (None, True, False, 1.0, "1", "", b"a", [], [1], (1,), ("a",), {}, {1: 1}, set(), object()):
            self.assertIs(is_value("number", thing), False)
            self.assertIs(is_value("word", thing), False)

    def test_odd_things_are_judged_without_fault(self):
        for thing in ODD_THINGS:
            for told in (is_whole(thing), is_name(thing), is_value("number", thing), is_value("word", thing)):
                self.assertIsInstance(told, bool)


class ValueTextTest(Case):
    def test_numbers(self):
        for number, text in ((0, "0"), (7, "7"), (-7, "-7"), (10, "10"), (-100, "-100"),
                             (BOUND, "1000000000"), (-BOUND, "-1000000000")):
            self.same(value_text(number), text)
            self.same(value_in("number", text), number)

    def test_words(self):
        for word in ("a", "rome", "abcdefgh", "number", "none"):
            self.same(value_text(word), word)
            self.same(value_in("word", word), word)

    def test_many_numbers_come_again(self):
        for number in list(range(-120, 121)) + [10 ** power for power in range(10)]:
            self.same(value_in("number", value_text(number)), number)
            self.same(value_in("number", value_text(-number)), -number)

    def test_what_is_no_number(self):
        for text in NO_NUMBERS:
            self.assertIsNone(value_in("number", text), text[:20])

    def test_what_is_no_word(self):
        for text in NO_NAMES + ["7", "-7", "0"]:
            self.assertIsNone(value_in("word", text), text)

    def test_a_text_is_read_by_its_kind_alone(self):
        self.assertIsNone(value_in("number", "rome"))
        self.assertIsNone(value_in("word", "12"))


if __name__ == "__main__":
    unittest.main()
