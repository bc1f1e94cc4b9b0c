"""Promises 0.3, 0.4 and 1.2 to 1.4: the parts of a text."""

import inspect
import itertools
import unittest

from samples import ALPHABET, BEYOND, ORDINARY, SMALL, slow_parts, slow_where, words_up_to
from tailyard.parts import count_parts, longest_shared, longest_twice, missing, parts, where


def slow_first_longest(candidates):
    return min(candidates, key=lambda part: (-len(part), part))


def slow_missing(text, letters):
    for length in itertools.count(1):
        for word in itertools.product(letters, repeat=length):
            if "".join(word) not in slow_parts(text):
                return "".join(word)


class Parts(unittest.TestCase):
    def test_empty_text(self):
        self.assertEqual(parts(""), ("",))
        self.assertEqual(count_parts(""), 1)

    def test_one_letter(self):
        for letter in ALPHABET:
            self.assertEqual(parts(letter), ("", letter))
            self.assertEqual(count_parts(letter), 2)

    def test_letters_all_alike(self):
        self.assertEqual(parts("aaaa"), ("", "a", "aa", "aaa", "aaaa"))
        self.assertEqual(parts("z" * 24), tuple("z" * length for length in range(25)))
        self.assertEqual(count_parts("z" * 24), 25)

    def test_letters_all_unlike(self):
        self.assertEqual(parts("cab"), ("", "a", "b", "c", "ab", "ca", "cab"))
        self.assertEqual(count_parts("cab"), 7)
        self.assertEqual(parts(ALPHABET[:24]), slow_parts(ALPHABET[:24]))
        self.assertEqual(count_parts(ALPHABET[:24]), 301)

    def test_ordinary_texts(self):
        self.assertEqual(parts("aba"), ("", "a", "b", "ab", "ba", "aba"))
        self.assertEqual(parts("banana"), ("", "a", "b", "n", "an", "ba", "na", "ana", "ban", "nan", "anan", "bana",
                                           "nana", "anana", "banan", "banana"))
        self.assertEqual(count_parts("banana"), 16)
        self.assertEqual(count_parts("mississippi"), 54)

    def test_each_once_shorter_first_and_in_order(self):
        for text in ORDINARY + BEYOND + tuple(SMALL):
            told = parts(text)
            self.assertEqual(told, slow_parts(text))
            self.assertEqual(len(set(told)), len(told))
            self.assertEqual(count_parts(text), len(told))

    def test_kinds(self):
        told = parts("banana")
        self.assertIs(type(told), tuple)
        self.assertEqual({type(part) for part in told}, {str})
        self.assertIs(type(count_parts("banana")), int)
        self.assertIs(type(count_parts("")), int)


class Where(unittest.TestCase):
    def test_empty_part_begins_at_all_places(self):
        self.assertEqual(where("", ""), (0,))
        self.assertEqual(where("a", ""), (0, 1))
        self.assertEqual(where("banana", ""), (0, 1, 2, 3, 4, 5, 6))
        self.assertEqual(where("a" * 24, ""), tuple(range(25)))

    def test_whole_text(self):
        for text in ORDINARY + BEYOND + ("a", "ab"):
            self.assertEqual(where(text, text), (0,))

    def test_parts_that_lie_over_one_another(self):
        self.assertEqual(where("banana", "ana"), (1, 3))
        self.assertEqual(where("aaaa", "aa"), (0, 1, 2))
        self.assertEqual(where("a" * 24, "a" * 23), (0, 1))
        self.assertEqual(where("abababab", "abab"), (0, 2, 4))

    def test_single_letters(self):
        self.assertEqual(where("banana", "a"), (1, 3, 5))
        self.assertEqual(where("banana", "b"), (0,))
        self.assertEqual(where("banana", "n"), (2, 4))

    def test_part_longer_than_the_text(self):
        self.assertEqual(where("", "a"), ())
        self.assertEqual(where("a", "aa"), ())
        self.assertEqual(where("banana", "bananas"), ())
        self.assertEqual(where("banana", "abanana"), ())
        self.assertEqual(where("ab", "a" * 24), ())

    def test_part_that_does_not_come(self):
        self.assertEqual(where("banana", "c"), ())
        self.assertEqual(where("banana", "nab"), ())
        self.assertEqual(where("banana", "nanan"), ())
        # What begins at the text's end and would go on beyond it does not come.
        self.assertEqual(where("banana", "nas"), ())

    def test_as_the_words_say(self):
        for text in ORDINARY + BEYOND:
            for part in slow_parts(text):
                self.assertEqual(where(text, part), slow_where(text, part))
        for text in words_up_to("ab", 5):
            for part in words_up_to("abc", 4):
                self.assertEqual(where(text, part), slow_where(text, part))

    def test_kinds(self):
        for told in (where("banana", "an"), where("banana", "c"), where("", "")):
            self.assertIs(type(told), tuple)
            self.assertLessEqual({type(place) for place in told}, {int})


class LongestTwice(unittest.TestCase):
    def test_no_letter_twice(self):
        for text in ("", "a", "z", "ab", "cab", ALPHABET[:24], ALPHABET):
            self.assertEqual(longest_twice(text), "")

    def test_one_longest(self):
        self.assertEqual(longest_twice("banana"), "ana")
        self.assertEqual(longest_twice("mississippi"), "issi")
        self.assertEqual(longest_twice("abracadabra"), "abra")
        self.assertEqual(longest_twice("zabz"), "z")

    def test_places_may_lie_over_one_another(self):
        self.assertEqual(longest_twice("aa"), "a")
        self.assertEqual(longest_twice("a" * 24), "a" * 23)

    def test_first_in_order_of_several_as_long(self):
        self.assertEqual(longest_twice("bbaa"), "a")
        self.assertEqual(longest_twice("baba"), "ba")
        self.assertEqual(longest_twice("cdxcdyabzab"), "ab")
        self.assertEqual(longest_twice("abzabycdxcd"), "ab")

    def test_longer_ahead_of_first_in_order(self):
        self.assertEqual(longest_twice("aaxzzzyzzz"), "zzz")

    def test_as_the_words_say(self):
        for text in ORDINARY + BEYOND + tuple(SMALL):
            twice = [part for part in slow_parts(text) if len(slow_where(text, part)) >= 2]
            self.assertEqual(longest_twice(text), slow_first_longest(twice + [""]))

    def test_kind(self):
        for text in ("", "ab", "banana"):
            self.assertIs(type(longest_twice(text)), str)


class LongestShared(unittest.TestCase):
    def test_nothing_shared(self):
        for one, other in (("", ""), ("", "abc"), ("abc", ""), ("abc", "xyz"), ("a", "b"), ("a" * 24, "b" * 24)):
            self.assertEqual(longest_shared(one, other), "")

    def test_alike(self):
        for text in ORDINARY + BEYOND + ("a", "ab"):
            self.assertEqual(longest_shared(text, text), text)

    def test_one_is_a_part_of_the_other(self):
        self.assertEqual(longest_shared("banana", "nan"), "nan")
        self.assertEqual(longest_shared("nan", "banana"), "nan")

    def test_one_longest(self):
        self.assertEqual(longest_shared("abcdefg", "xxcdeyy"), "cde")
        self.assertEqual(longest_shared("mississippi", "sippimiss"), "sippi")

    def test_first_in_order_of_several_as_long(self):
        self.assertEqual(longest_shared("banana", "bandana"), "ana")
        self.assertEqual(longest_shared("bandana", "banana"), "ana")
        self.assertEqual(longest_shared("ab", "ba"), "a")
        self.assertEqual(longest_shared("ba", "ab"), "a")
        self.assertEqual(longest_shared("cdxab", "abycd"), "ab")

    def test_longer_ahead_of_first_in_order(self):
        self.assertEqual(longest_shared("aayzzz", "zzzxaa"), "zzz")

    def test_letters_in_between_count(self):
        # Letters that both have in the same order, but not side by side, are no part.
        self.assertEqual(longest_shared("axbxc", "abc"), "a")

    def test_as_the_words_say(self):
        small = words_up_to("ab", 4) + words_up_to("abc", 3)
        for one, other in itertools.chain(itertools.product(small, small), itertools.product(ORDINARY, ORDINARY)):
            shared = set(slow_parts(one)) & set(slow_parts(other))
            self.assertEqual(longest_shared(one, other), slow_first_longest(shared))

    def test_kind(self):
        for one, other in (("", ""), ("a", "b"), ("banana", "nan")):
            self.assertIs(type(longest_shared(one, other)), str)


class Missing(unittest.TestCase):
    def test_one_letter(self):
        self.assertEqual(missing("", "a"), "a")
        self.assertEqual(missing("b", "a"), "a")
        self.assertEqual(missing("a", "a"), "aa")
        self.assertEqual(missing("aabaaab", "a"), "aaaa")
        self.assertEqual(missing("aabaaab", "b"), "bb")
        self.assertEqual(missing("a" * 23, "a"), "a" * 24)
        # A word that is missing may have more letters than a text.
        self.assertEqual(missing("a" * 24, "a"), "a" * 25)

    def test_first_missing_word_has_one_letter(self):
        self.assertEqual(missing("", "abc"), "a")
        self.assertEqual(missing("banana", "abcn"), "c")
        self.assertEqual(missing("banana", "xyz"), "x")
        self.assertEqual(missing("banana", "az"), "z")
        self.assertEqual(missing(ALPHABET[:24], ALPHABET), "y")
        self.assertEqual(missing(ALPHABET[2:], ALPHABET), "a")

    def test_first_missing_word_has_more_letters(self):
        self.assertEqual(missing("banana", "an"), "aa")
        self.assertEqual(missing("aab", "ab"), "ba")
        self.assertEqual(missing("aabba", "ab"), "aaa")
        self.assertEqual(missing("aabbaab", "ab"), "aaa")
        self.assertEqual(missing("aaababbbaa", "ab"), "aaaa")
        self.assertEqual(missing("aabacbbcca", "abc"), "aaa")
        self.assertEqual(missing("aabacbbcc", "abc"), "ca")

    def test_words_of_these_letters_alone(self):
        self.assertEqual(missing("bcb", "bc"), "bb")
        self.assertEqual(missing("ab", "b"), "bb")

    def test_as_the_words_say(self):
        for text in ORDINARY + BEYOND + tuple(SMALL):
            for letters in ("a", "b", "c", "ab", "bc", "abc", "abz", ALPHABET[:24]):
                self.assertEqual(missing(text, letters), slow_missing(text, letters))

    def test_kind(self):
        self.assertIs(type(missing("", "a")), str)
        self.assertIs(type(missing("banana", "an")), str)


class ToldAgain(unittest.TestCase):
    CALLS = ((parts, ("banana",)), (count_parts, ("banana",)), (where, ("banana", "an")), (longest_twice, ("banana",)),
             (longest_shared, ("banana", "bandana")), (missing, ("banana", "an")), (parts, ("",)), (where, ("", "")),
             (parts, ("mississippi",)), (missing, ("mississippi", "is")), (longest_twice, ("ab",)))

    def test_the_same_is_told_again_whatever_was_asked_between(self):
        first = [call(*given) for call, given in self.CALLS]
        self.assertEqual([call(*given) for call, given in reversed(self.CALLS)], first[::-1])
        self.assertEqual([call(*given) for call, given in self.CALLS], first)

    def test_arguments_are_not_changed(self):
        for call, given in self.CALLS:
            kept = ["".join(list(text)) for text in given]
            call(*given)
            self.assertEqual(list(given), kept)


class Interface(unittest.TestCase):
    def test_arguments_are_called_as_told(self):
        for call, names in ((parts, ["text"]), (count_parts, ["text"]), (where, ["text", "part"]),
                            (longest_twice, ["text"]), (longest_shared, ["one", "other"]),
                            (missing, ["text", "letters"])):
            self.assertEqual(list(inspect.signature(call).parameters), names)


if __name__ == "__main__":
    unittest.main()
