"""Promise 2.1: the tails of a text in order, and what neighbours among them begin with alike."""

import inspect
import os.path
import unittest

from samples import ALL_ALIKE, ALL_UNLIKE, ALPHABET, BEYOND, FULL, TEXTS, kinds_within
from tailyard.order import neighbours, tails


class Tails(unittest.TestCase):
    def test_empty_text(self):
        self.assertEqual(tails(""), ())

    def test_one_letter(self):
        for letter in ALPHABET:
            self.assertEqual(tails(letter), (0,))

    def test_letters_all_alike(self):
        # A head stands ahead of what it is the head of: the shortest tail comes first.
        self.assertEqual(tails("aaaa"), (3, 2, 1, 0))
        self.assertEqual(tails("z" * 24), tuple(range(23, -1, -1)))

    def test_letters_all_unlike(self):
        self.assertEqual(tails("cab"), (1, 2, 0))
        self.assertEqual(tails(ALPHABET[:24]), tuple(range(24)))
        self.assertEqual(tails(ALPHABET[23::-1]), tuple(range(23, -1, -1)))

    def test_ordinary_texts(self):
        self.assertEqual(tails("banana"), (5, 3, 1, 0, 4, 2))
        self.assertEqual(tails("mississippi"), (10, 7, 4, 1, 0, 9, 8, 6, 3, 5, 2))
        self.assertEqual(tails("abracadabra"), (10, 7, 0, 3, 5, 8, 1, 4, 6, 9, 2))

    def test_each_place_but_the_last_once_and_in_order(self):
        for text in TEXTS + BEYOND:
            told = tails(text)
            self.assertEqual(sorted(told), list(range(len(text))), text)
            for one, other in zip(told, told[1:]):
                self.assertLess(text[one:], text[other:], text)

    def test_kinds(self):
        for text in ("", "a", "banana"):
            self.assertLessEqual(kinds_within(tails(text)), {tuple, int})


class Neighbours(unittest.TestCase):
    def test_empty_text_and_one_letter(self):
        self.assertEqual(neighbours(""), ())
        for letter in ALPHABET:
            self.assertEqual(neighbours(letter), ())

    def test_letters_all_alike(self):
        self.assertEqual(neighbours("aa"), (1,))
        for text in ALL_ALIKE:
            self.assertEqual(neighbours(text), tuple(range(1, len(text))))

    def test_letters_all_unlike(self):
        for text in ALL_UNLIKE:
            self.assertEqual(neighbours(text), (0,) * (len(text) - 1))

    def test_ordinary_texts(self):
        self.assertEqual(neighbours("banana"), (1, 3, 0, 0, 2))
        self.assertEqual(neighbours("mississippi"), (1, 1, 4, 0, 0, 1, 0, 2, 1, 3))
        self.assertEqual(neighbours("abracadabra"), (1, 4, 1, 1, 0, 3, 0, 0, 0, 2))

    def test_texts_of_24_letters(self):
        self.assertEqual(neighbours("a" * 24), tuple(range(1, 24)))
        self.assertEqual(neighbours("a" * 23 + "b"), tuple(range(22, -1, -1)))
        for text in FULL:
            self.assertEqual(len(neighbours(text)), 23)

    def test_one_fewer_and_just_as_far_as_both_begin_alike(self):
        for text in TEXTS + BEYOND:
            ordered = sorted(text[place:] for place in range(len(text)))
            expected = [len(os.path.commonprefix(pair)) for pair in zip(ordered, ordered[1:])]
            self.assertEqual(neighbours(text), tuple(expected), text)

    def test_kinds(self):
        for text in ("", "a", "ab", "banana"):
            self.assertLessEqual(kinds_within(neighbours(text)), {tuple, int})


class Interface(unittest.TestCase):
    def test_arguments_are_called_as_told(self):
        for call in (tails, neighbours):
            self.assertEqual(list(inspect.signature(call).parameters), ["text"])


if __name__ == "__main__":
    unittest.main()
