"""Promise 5.1: borders and periods."""

import inspect
import unittest

from samples import ALL_ALIKE, ALL_UNLIKE, ALPHABET, BEYOND, TEXTS, kinds_within
from tailyard.borders import borders, periods


def slow_borders(text):
    heads = {text[:place] for place in range(len(text) + 1)}
    tails = {text[place:] for place in range(len(text) + 1)}
    return tuple(sorted((len(head) for head in heads & tails if head != text), reverse=True))


def slow_periods(text):
    return tuple(far for far in range(1, len(text) + 1)
                 if all(text[place] == text[place + far] for place in range(len(text)) if place + far < len(text)))


class Borders(unittest.TestCase):
    def test_empty_text(self):
        self.assertEqual(borders(""), ())

    def test_one_letter(self):
        for letter in ALPHABET:
            self.assertEqual(borders(letter), (0,))

    def test_letters_all_alike(self):
        for text in ALL_ALIKE:
            self.assertEqual(borders(text), tuple(range(len(text) - 1, -1, -1)))

    def test_letters_all_unlike(self):
        for text in ALL_UNLIKE:
            self.assertEqual(borders(text), (0,))

    def test_head_again_and_again(self):
        self.assertEqual(borders("abab"), (2, 0))
        self.assertEqual(borders("abcabcabc"), (6, 3, 0))
        self.assertEqual(borders("abaaba"), (3, 1, 0))
        self.assertEqual(borders("ab" * 12), tuple(range(22, -1, -2)))

    def test_ordinary_texts(self):
        self.assertEqual(borders("banana"), (0,))
        self.assertEqual(borders("abracadabra"), (4, 1, 0))
        self.assertEqual(borders("abaababaab"), (5, 2, 0))
        self.assertEqual(borders("aabaa"), (2, 1, 0))
        self.assertEqual(borders("aab"), (0,))
        self.assertEqual(borders("aba"), (1, 0))

    def test_as_the_words_say(self):
        for text in TEXTS + BEYOND:
            self.assertEqual(borders(text), slow_borders(text))

    def test_kinds(self):
        for text in ("", "a", "abab"):
            self.assertLessEqual(kinds_within(borders(text)), {tuple, int})


class Periods(unittest.TestCase):
    def test_empty_text(self):
        self.assertEqual(periods(""), ())

    def test_one_letter(self):
        for letter in ALPHABET:
            self.assertEqual(periods(letter), (1,))

    def test_letters_all_alike(self):
        for text in ALL_ALIKE:
            self.assertEqual(periods(text), tuple(range(1, len(text) + 1)))

    def test_letters_all_unlike(self):
        for text in ALL_UNLIKE:
            self.assertEqual(periods(text), (len(text),))

    def test_head_again_and_again(self):
        self.assertEqual(periods("abab"), (2, 4))
        self.assertEqual(periods("abcabcabc"), (3, 6, 9))
        self.assertEqual(periods("abaaba"), (3, 5, 6))
        self.assertEqual(periods("ab" * 12), tuple(range(2, 25, 2)))

    def test_ordinary_texts(self):
        self.assertEqual(periods("banana"), (6,))
        self.assertEqual(periods("abracadabra"), (7, 10, 11))
        # A period need not divide the length.
        self.assertEqual(periods("abcab"), (3, 5))
        self.assertEqual(periods("aabaa"), (3, 4, 5))

    def test_as_the_words_say(self):
        for text in TEXTS + BEYOND:
            self.assertEqual(periods(text), slow_periods(text))

    def test_kinds(self):
        for text in ("", "a", "abab"):
            self.assertLessEqual(kinds_within(periods(text)), {tuple, int})


class Interface(unittest.TestCase):
    def test_arguments_are_called_as_told(self):
        for call in (borders, periods):
            self.assertEqual(list(inspect.signature(call).parameters), ["text"])


if __name__ == "__main__":
    unittest.main()
