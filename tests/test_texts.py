"""Promises 0.3, 0.4 and 1.1: what a text is."""

import copy
import inspect
import unittest

from samples import ALPHABET, nested
from tailyard.texts import is_text

SIGNS = [chr(number) for number in range(ord(" "), ord("~") + 1)] + ["\t", "\n"]


class IsText(unittest.TestCase):
    def holds(self, thing):
        self.assertIs(is_text(thing), True, repr(thing))

    def fails(self, thing):
        self.assertIs(is_text(thing), False, repr(thing))

    def test_texts_up_to_24_letters(self):
        for length in range(25):
            self.holds("a" * length)
            self.holds("z" * length)
            self.holds(ALPHABET[:length])
            self.holds(ALPHABET[26 - length:])
        self.holds("banana")

    def test_more_letters_are_no_text(self):
        self.fails("a" * 25)
        self.fails(ALPHABET[:25])
        self.fails(ALPHABET)
        self.fails("ab" * 500)

    def test_letters_a_to_z_alone(self):
        for sign in SIGNS:
            expected = sign in ALPHABET
            for thing in (sign, sign + "abc", "ab" + sign + "c", "abc" + sign, "a" * 23 + sign):
                self.assertIs(is_text(thing), expected, repr(thing))

    def test_named_signs(self):
        for thing in ("A", "Z", "Banana", "bananA", " ", "a b", " a", "a ", "0", "a1", "\t", "a\t", "\n", "a\n", "\na",
                      "a\nb", "`", "{", "@", "[", "_", "a-b", "None", "True", "12"):
            self.fails(thing)

    def test_whole_numbers(self):
        for thing in (0, 1, -1, 24, 25, 97, 10 ** 30):
            self.fails(thing)

    def test_truths_and_none(self):
        for thing in (True, False, None):
            self.fails(thing)

    def test_lists_and_tuples(self):
        for thing in ([], (), ["a"], ("a",), ["a", "b"], ("a", "b"), list("banana"), tuple("banana"), [""], ("",),
                      [None], (None,), [True, 0], (False, 1), [[], ()], ((), []), ["a", ["b", ("c",)]], [["a"], "b"]):
            self.fails(thing)

    def test_deep_lists_and_tuples(self):
        for inner in ("abc", "", 7, True, None, [], ()):
            for depth in (1, 2, 29, 30, 31, 40):
                self.fails(nested(inner, depth, list))
                self.fails(nested(inner, depth, tuple))
                self.fails(nested(nested(inner, depth, tuple), depth, list))

    def test_things_are_not_changed_and_told_the_same_again(self):
        things = ["abc", "ABC", "", 3, True, None, ["a", ["b", ("c", [1, None])]], ("a", ["b"]), nested("a", 30, list)]
        kept = copy.deepcopy(things)
        first = [is_text(thing) for thing in things]
        self.assertEqual(things, kept)
        self.assertEqual([is_text(thing) for thing in things], first)
        self.assertEqual([is_text(thing) for thing in reversed(things)], first[::-1])
        self.assertEqual(things, kept)

    def test_argument_is_called_thing(self):
        self.assertEqual(list(inspect.signature(is_text).parameters), ["thing"])


if __name__ == "__main__":
    unittest.main()
