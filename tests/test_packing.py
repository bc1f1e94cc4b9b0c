"""Promises 3.1, 3.2 and 0.2 (c): a text packed, and unpacked again."""

import inspect
import unittest

from samples import AGAIN_AND_AGAIN, ALL_ALIKE, ALPHABET, BEYOND, SMALL, TEXTS, kinds_within, words_up_to
from tailyard.errors import NoPack
from tailyard.packing import packed, unpacked


def slow_packed(text):
    turnings = sorted(text[place:] + text[:place] for place in range(len(text)))
    places = [place for place, turning in enumerate(turnings) if turning == text]
    return ("".join(turning[-1] for turning in turnings), min(places, default=0))


class Packed(unittest.TestCase):
    def test_empty_text(self):
        self.assertEqual(packed(""), ("", 0))

    def test_one_letter(self):
        for letter in ALPHABET:
            self.assertEqual(packed(letter), (letter, 0))

    def test_letters_all_alike(self):
        for text in ALL_ALIKE:
            self.assertEqual(packed(text), (text, 0))

    def test_head_again_and_again(self):
        # Turnings that are alike: the place is that of the first.
        self.assertEqual(packed("abab"), ("bbaa", 0))
        self.assertEqual(packed("baba"), ("bbaa", 2))
        self.assertEqual(packed("cabcab"), ("ccaabb", 4))
        self.assertEqual(packed("ba" * 12), ("b" * 12 + "a" * 12, 12))

    def test_ordinary_texts(self):
        self.assertEqual(packed("ab"), ("ba", 0))
        self.assertEqual(packed("ba"), ("ba", 1))
        self.assertEqual(packed("banana"), ("nnbaaa", 3))
        self.assertEqual(packed("mississippi"), ("pssmipissii", 4))
        self.assertEqual(packed("abracadabra"), ("rdarcaaaabb", 2))

    def test_by_turnings_and_not_by_tails(self):
        # The tail "b" stands ahead of "bab", but its turning "bba" behind "bab".
        self.assertEqual(packed("bab"), ("bba", 1))

    def test_as_the_words_say(self):
        for text in TEXTS + BEYOND:
            self.assertEqual(packed(text), slow_packed(text))

    def test_kinds(self):
        for text in ("", "a", "banana"):
            self.assertEqual(kinds_within(packed(text)), {tuple, str, int})
            self.assertEqual(len(packed(text)), 2)


class Unpacked(unittest.TestCase):
    def refused(self, last, place):
        with self.assertRaises(NoPack) as caught:
            unpacked(last, place)
        self.assertIs(type(caught.exception), NoPack)

    def test_empty_text(self):
        self.assertEqual(unpacked("", 0), "")
        for place in (-2, -1, 1, 2, 24, 10 ** 30, -10 ** 30):
            self.refused("", place)

    def test_one_letter(self):
        for letter in ALPHABET:
            self.assertEqual(unpacked(letter, 0), letter)
            for place in (-1, 1, 2):
                self.refused(letter, place)

    def test_ordinary_pairs(self):
        self.assertEqual(unpacked("nnbaaa", 3), "banana")
        self.assertEqual(unpacked("nnbaaa", 0), "abanan")
        self.assertEqual(unpacked("pssmipissii", 4), "mississippi")

    def test_what_was_packed_is_unpacked(self):
        for text in TEXTS + BEYOND:
            self.assertEqual(unpacked(*slow_packed(text)), text)
            self.assertEqual(unpacked(*packed(text)), text)

    def test_places_behind_the_first_of_turnings_that_are_alike(self):
        self.assertEqual(unpacked("bbaa", 0), "abab")
        self.refused("bbaa", 1)
        self.assertEqual(unpacked("bbaa", 2), "baba")
        self.refused("bbaa", 3)
        for place in range(1, 24):
            self.refused("a" * 24, place)
        for text in AGAIN_AND_AGAIN:
            last, place = slow_packed(text)
            self.refused(last, place + 1)

    def test_letters_that_no_text_is_packed_to(self):
        for last in ("ab", "abc", "aab", "abab", "banana", "ab" * 12, "a" * 23 + "b", ALPHABET[:24]):
            for place in range(-1, len(last) + 1):
                self.refused(last, place)

    def test_every_small_pair(self):
        texts = {}
        for text in words_up_to("abc", 4):
            texts[slow_packed(text)] = text
        for last in words_up_to("ab", 4) + words_up_to("abc", 4):
            for place in range(-1, len(last) + 2):
                if (last, place) in texts:
                    self.assertEqual(unpacked(last, place), texts[(last, place)])
                else:
                    self.refused(last, place)

    def test_longer_pairs_of_two_letters(self):
        texts = {}
        for text in SMALL:
            texts[slow_packed(text)] = text
        for last in words_up_to("ab", 7):
            for place in range(-1, len(last) + 1):
                if (last, place) in texts:
                    self.assertEqual(unpacked(last, place), texts[(last, place)])
                else:
                    self.refused(last, place)

    def test_places_of_any_size(self):
        # A whole number of 5000 digits can't be written out by Python, not even in an error's words.
        huge = 10 ** 5000
        for text in ("", "a", "abab", "banana", "z" * 24):
            last, place = packed(text)
            for other in (-1, -2, -len(last) - 1, len(last) + 1, len(last) + 24, 2 ** 31, 2 ** 63, 2 ** 64, huge, -huge,
                          place + huge, place - huge):
                self.refused(last, other)
            # A place counted from the end is none.
            if last:
                self.refused(last, place - len(last))
                self.refused(last, place + len(last))
                self.refused(last, len(last))

    def test_signs_that_are_no_letters(self):
        for last in ("A", "BA", " ", "b a", "\t", "a\n", "0", "{", "`"):
            for place in range(len(last)):
                self.refused(last, place)

    def test_kind(self):
        for last, place in (("", 0), ("a", 0), ("nnbaaa", 3)):
            self.assertIs(type(unpacked(last, place)), str)


class Interface(unittest.TestCase):
    def test_arguments_are_called_as_told(self):
        self.assertEqual(list(inspect.signature(packed).parameters), ["text"])
        self.assertEqual(list(inspect.signature(unpacked).parameters), ["last", "place"])


if __name__ == "__main__":
    unittest.main()
