"""[2], [3], duskisles/names.py: integers, names, leads, words."""

import unittest

from duskisles.names import is_integer, is_lead, is_name, is_words
from values import ANY, DEEP, MANY, PLAIN, STRINGS, copied

WORDS = ("still", "shut", "save", "dark")


class NamesTest(unittest.TestCase):

    def test_only_true_and_false_are_returned(self):
        for value in ANY:
            before = copied(value)
            for answer in (is_integer(value), is_name(value), is_lead(value), is_words(value, WORDS)):
                self.assertIs(type(answer), bool)
            self.assertEqual(value, before)

    def test_integers_are_not_bools(self):
        for value in (0, 1, -1, 10 ** 59, -(10 ** 59)):
            self.assertTrue(is_integer(value))
        for value in [True, False, None, "1", "", (1,), [1], {1: 1}] + STRINGS + MANY + DEEP:
            self.assertFalse(is_integer(value))

    def test_names_are_one_to_eight_small_letters(self):
        for value in ("a", "z", "az", "shore", "abcdefgh", "zzzzzzzz"):
            self.assertTrue(is_name(value), value)
        for value in ("", "abcdefghi", "A", "aB", "Shore", "a b", " a", "a ", "a1", "1", "a\n", "a_", "`", "{", "a-b"):
            self.assertFalse(is_name(value), value)
        for value in PLAIN + MANY + DEEP + [b"a"]:
            self.assertFalse(is_name(value), value)

    def test_leads_are_tuples_of_different_names(self):
        for value in ((), ("a",), ("b", "a"), ("a", "b", "c", "d"), ("abcdefgh",)):
            self.assertTrue(is_lead(value), value)
        for value in (("a", "b", "c", "d", "e"), ("a", "a"), ("a", "b", "a"), ("shore",), ("a", "shore"), ("",), ("A",),
                      ("abcdefghi",), (1,), (None,), (True,), (("a",),), (["a"],), ({},), ["a"], [], {}, {"a": 1}, "a",
                      "", None, 0):
            self.assertFalse(is_lead(value), value)

    def test_words_are_some_of_the_given_ones(self):
        for value in (("still",), ("dark", "still"), WORDS, WORDS[::-1]):
            self.assertTrue(is_words(value, WORDS), value)
        for value in ((), ("still", "still"), ("lit",), ("still", "lit"), ("",), ("s",), (1,), (None,), (["still"],),
                      ({},), (("still",),), ["still"], "still", {"still": 1}, None, True):
            self.assertFalse(is_words(value, WORDS), value)

    def test_words_are_strings_and_the_others_a_tuple(self):
        for value in ((1,), (None,), ((),), (("a",),)):
            self.assertIs(is_words(value, (1, None, (), ("a",))), False)
        for words in [["a", "b"], "ab", {"a": 1}] + PLAIN + STRINGS:
            self.assertIs(is_words(("a",), words), False)

    def test_words_hang_on_the_tuple_that_is_passed(self):
        self.assertTrue(is_words(("lit",), ("lit", "go")))
        self.assertFalse(is_words(("still",), ("lit", "go")))
        self.assertFalse(is_words(("a",), ()))
        self.assertTrue(is_words(("", "two words"), ("two words", "")))


if __name__ == "__main__":
    unittest.main()
