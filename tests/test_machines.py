"""Promises 4.1 to 4.3: the least machine of the tails, where words lead, and the text of a machine."""

import inspect
import itertools
import unittest

from samples import (ALPHABET, BEYOND, FULL, ORDINARY, TEXTS, kinds_within, nested, same, slow_ends, slow_machine,
                     slow_parts, slow_tails, ways_through, words_up_to)
from tailyard.errors import NoMachine
from tailyard.machines import led, machine, text_of

NO_LETTERS = ("A", "Z", " ", "0", "9", "`", "{", "~", "_", "\t", "\n")


def trie(text):
    """A machine that leads as the text's does, with a room for each part, numbered in their order."""
    words = slow_parts(text)
    rooms = tuple(tuple((letter, words.index(word + letter)) for letter in ALPHABET if word + letter in words)
                  for word in words)
    return (rooms, tuple(number for number, word in enumerate(words) if text.endswith(word)))


def renumbered(told, numbers):
    """The same machine, with room k under numbers[k]."""
    rooms = [None] * len(told[0])
    for number, lines in enumerate(told[0]):
        rooms[numbers[number]] = tuple((letter, numbers[goal]) for letter, goal in lines)
    return (tuple(rooms), tuple(sorted(numbers[number] for number in told[1])))


def changes_of(thing):
    """What may stand in the place of a thing: other kinds, other values, more, fewer or shuffled within."""
    yield from (None, True, False, 0, 1, 2, 3, -1, 10 ** 30, "a", "b", "c", "", "ab", "A")
    yield from ((), [], ("a", 1), (0,), ((),), [thing], (thing,), (thing, thing))
    if isinstance(thing, int):
        yield from (bool(thing), str(thing), thing + 1, thing - 1, -thing)
    if isinstance(thing, str):
        yield from (thing + thing, thing.upper(), thing + " ")
    if isinstance(thing, tuple):
        yield from (list(thing), thing[::-1], thing + thing, thing + ((),), thing + (0,), thing + (("a", 0),))
        for place in range(len(thing)):
            yield thing[:place] + thing[place + 1:]
            yield thing[:place] + thing[place:place + 1] * 2 + thing[place + 1:]
        for place in range(len(thing) - 1):
            yield thing[:place] + (thing[place + 1], thing[place]) + thing[place + 2:]


def changed(thing):
    """All things that one change, wherever within, makes of a thing."""
    yield from changes_of(thing)
    if isinstance(thing, tuple):
        for place, inner in enumerate(thing):
            for other in changed(inner):
                yield thing[:place] + (other,) + thing[place + 1:]


class Machine(unittest.TestCase):
    def test_empty_text(self):
        self.assertEqual(machine(""), (((),), (0,)))

    def test_one_letter(self):
        for letter in ALPHABET:
            self.assertEqual(machine(letter), ((((letter, 1),), ()), (0, 1)))

    def test_worked_out_by_hand(self):
        self.assertEqual(machine("ab"), (((("a", 1), ("b", 2)), (("b", 2),), ()), (0, 2)))
        self.assertEqual(machine("ba"), (((("a", 1), ("b", 2)), (), (("a", 1),)), (0, 1)))
        self.assertEqual(machine("aab"), (((("a", 1), ("b", 2)), (("a", 3), ("b", 2)), (), (("b", 2),)), (0, 2)))
        self.assertEqual(machine("aba"), (((("a", 1), ("b", 2)), (("b", 2),), (("a", 3),), ()), (0, 1, 3)))
        self.assertEqual(machine("abb"), (((("a", 1), ("b", 2)), (("b", 3),), (("b", 4),), (("b", 4),), ()), (0, 2, 4)))

    def test_letters_all_alike(self):
        rooms = tuple((("z", number + 1),) for number in range(24)) + ((),)
        self.assertEqual(machine("z" * 24), (rooms, tuple(range(25))))

    def test_form(self):
        for text in TEXTS + BEYOND:
            told = machine(text)
            self.assertLessEqual(kinds_within(told), {tuple, str, int})
            self.assertEqual(len(told), 2)
            rooms, ends = told
            for lines in rooms:
                letters = [letter for letter, _ in lines]
                self.assertEqual(letters, sorted(set(letters)))
                for letter, goal in lines:
                    self.assertIn(letter, list(text))
                    self.assertIn(goal, range(len(rooms)))
            self.assertEqual(list(ends), sorted(set(ends)))
            self.assertLessEqual(set(ends), set(range(len(rooms))))

    def test_just_parts_lead_to_a_room_and_just_tails_to_one_of_ends(self):
        for text in TEXTS + BEYOND:
            told = machine(text)
            ways = ways_through(told)
            self.assertEqual(sorted(word for word, _ in ways), sorted(slow_parts(text)))
            self.assertEqual(sorted(word for word, room in ways if room in told[1]), sorted(slow_tails(text)))

    def test_same_room_just_if_they_end_at_the_same_places(self):
        for text in TEXTS + BEYOND:
            room_by_ends = {}
            for word, room in ways_through(machine(text)):
                self.assertEqual(room_by_ends.setdefault(slow_ends(text, word), room), room)
            self.assertEqual(len(set(room_by_ends.values())), len(room_by_ends))

    def test_rooms_are_numbered_by_the_first_word_that_leads_there(self):
        for text in TEXTS + BEYOND:
            told = machine(text)
            met = []
            for word, room in sorted(ways_through(told), key=lambda way: (len(way[0]), way[0])):
                if room not in met:
                    met.append(room)
            self.assertEqual(met, list(range(len(told[0]))))

    def test_as_the_words_say(self):
        for text in TEXTS + BEYOND:
            self.assertEqual(machine(text), slow_machine(text))


class Led(unittest.TestCase):
    def test_empty_word(self):
        for text in TEXTS:
            self.assertIs(type(led(machine(text), "")), int)
            self.assertEqual(led(machine(text), ""), 0)

    def test_parts(self):
        told = machine("aab")
        for word, room in (("a", 1), ("b", 2), ("aa", 3), ("ab", 2), ("aab", 2)):
            self.assertEqual(led(told, word), room)
        for text in ORDINARY + FULL:
            told = slow_machine(text)
            for word, room in ways_through(told):
                self.assertEqual(led(told, word), room)

    def test_words_that_are_no_parts(self):
        told = machine("banana")
        for word in ("c", "nab", "bananas", "abanana", "bananab", "aa", "bn", "z", "a" * 30, "banana" * 2):
            self.assertIsNone(led(told, word))
        self.assertIsNone(led(machine(""), "a"))
        # Where a line has once lacked, no later letter leads on.
        self.assertIsNone(led(told, "canana"))
        self.assertIsNone(led(told, "banzana"))
        for text in words_up_to("ab", 4):
            for word in words_up_to("abc", 5):
                self.assertEqual(led(machine(text), word) is None, word not in text)

    def test_words_with_other_signs(self):
        for sign in NO_LETTERS:
            for word in (sign, "a" + sign, sign + "a", "b" + sign + "a"):
                self.assertIsNone(led(machine("banana"), word))

    def test_machines_that_are_of_no_text(self):
        # A word leads by the lines of its letters, in whatever machine.
        circle = (((("a", 1), ("b", 0)), (("a", 0),), (("a", 2),)), (1,))
        self.assertEqual(led(circle, ""), 0)
        self.assertEqual(led(circle, "a"), 1)
        self.assertEqual(led(circle, "bb"), 0)
        self.assertEqual(led(circle, "aab"), 0)
        self.assertEqual(led(circle, "a" * 101), 1)
        self.assertIsNone(led(circle, "ab"))
        self.assertIsNone(led(circle, "c"))

    def test_machine_without_rooms(self):
        for word in ("", "a", "banana"):
            self.assertIsNone(led(((), ()), word))


class TextOf(unittest.TestCase):
    def refused(self, thing):
        try:
            told = text_of(thing)
        except NoMachine as error:
            self.assertIs(type(error), NoMachine)
        else:
            self.fail(f"{thing} was told to be the machine of {told!r}")

    def test_machines_of_texts(self):
        for text in TEXTS:
            self.assertEqual(text_of(machine(text)), text)
            self.assertEqual(text_of(slow_machine(text)), text)
            self.assertIs(type(text_of(machine(text))), str)

    def test_single_things(self):
        for thing in (0, 1, -1, 10 ** 30, 10 ** 5000, True, False, None, "", "a", "ab", "banana", "A", "\n"):
            for shape in (thing, (thing, thing), (thing, (0,)), (((),), thing), ((thing,), (0,)), (((),), (thing,)),
                          (((thing,), ()), (0, 1)), ((((thing, 1),), ()), (0, 1)), (((("a", thing),), ()), (0, 1))):
                if not any(same(shape, machine(text)) for text in ("", "a")):
                    self.refused(shape)

    def test_things_of_another_form(self):
        for thing in ([], (), [[]], ((),), ((), ()), ((), (0,)), ([], []), (((),),), (((),), ()), (((),), (0,), ()),
                      ((0,), ((),)), ((), ((),)), ("", ""), ("a", (0,)), ((("a",),), (0,)), (((("a", 0, 0),),), (0,)),
                      ((("a", 1), ()), (0, 1)), (("ab", ""), (0, 1)), ((("a1",), ()), (0, 1)), (((),), "0"),
                      (((((),),),), (0,)), (((),), ((0,),)), ("ab", "ab"), (("a", 1), ("b", 2))):
            self.refused(thing)

    def test_deep_things(self):
        for inner in ("abc", "", 7, True, None, [], (), machine("ab")):
            for depth in (1, 2, 3, 4, 5, 29, 30, 31, 40):
                for kind in (list, tuple):
                    deep = nested(inner, depth, kind)
                    for thing in (deep, (deep, deep), (deep, (0,)), (((),), deep), (((), deep), (0,)),
                                  (((deep,),), (0,)), ((((deep, 0),),), (0,)), (((("a", deep),),), (0,)),
                                  (((),), (deep,)), nested(deep, depth, tuple)):
                        if not same(thing, machine("")):
                            self.refused(thing)

    def test_lists_in_the_place_of_tuples(self):
        for text in ("", "a", "ab", "banana", "z" * 24):
            rooms, ends = machine(text)
            self.refused([rooms, ends])
            self.refused((list(rooms), ends))
            self.refused((rooms, list(ends)))
            for number, lines in enumerate(rooms):
                self.refused((rooms[:number] + (list(lines),) + rooms[number + 1:], ends))
                for place, line in enumerate(lines):
                    room = lines[:place] + (list(line),) + lines[place + 1:]
                    self.refused((rooms[:number] + (room,) + rooms[number + 1:], ends))

    def test_truths_in_the_place_of_numbers(self):
        self.refused((((),), (False,)))
        self.refused((((("a", True),), ()), (0, 1)))
        self.refused((((("a", 1),), ()), (False, 1)))
        self.refused((((("a", 1),), ()), (0, True)))
        self.refused((((("a", 1),), ()), (False, True)))
        self.refused((((("a", 1),), (("a", 2),), ()), (0, True, 2)))

    def test_letters_that_are_none(self):
        for sign in NO_LETTERS + ("", "ab", "aa", "a" * 30, 0, 1, None, True, ("a",), ["a"]):
            self.refused(((((sign, 1),), ()), (0, 1)))
            self.refused((((("a", 1), (sign, 2)), ((sign, 2),), ()), (0, 2)))
            self.refused(((((sign, 1), ("z", 2)), (("z", 2),), ()), (0, 2)))

    def test_machines_of_words_with_a_sign_that_is_no_letter(self):
        for sign in NO_LETTERS:
            for word in (sign, sign + "a", "a" + sign, "ban" + sign + "na", sign.join("baaa"), "z" * 23 + sign):
                self.refused(slow_machine(word))

    def test_machines_of_words_of_more_than_24_letters(self):
        for word in BEYOND + (ALPHABET[:25], "a" * 24 + "b", "ab" * 12 + "a", "a" * 26, "a" * 48, "ab" * 25):
            self.refused(slow_machine(word))
            self.refused(machine(word))

    def test_rooms_under_other_numbers(self):
        for text in ("a", "ab", "ba", "aa", "aab", "aba", "abc", "abb", "bab"):
            told = machine(text)
            for numbers in itertools.permutations(range(len(told[0]))):
                if numbers == tuple(range(len(told[0]))):
                    self.assertEqual(text_of(renumbered(told, numbers)), text)
                else:
                    self.refused(renumbered(told, numbers))
        for text in ORDINARY + FULL:
            told = machine(text)
            numbers = list(range(len(told[0])))
            for place in range(len(numbers) - 1):
                swapped = numbers[:place] + [place + 1, place] + numbers[place + 2:]
                self.refused(renumbered(told, swapped))

    def test_machines_with_more_rooms_than_needed(self):
        # They lead the very same words to rooms, and the same ones to ends.
        for text in ("ab", "aab", "abb", "banana", "mississippi", "ab" * 12):
            self.refused(trie(text))
        for text in ("", "a", "ab", "banana", "a" * 24):
            rooms, ends = machine(text)
            self.refused((rooms + ((),), ends))
            self.refused((rooms + ((),), ends + (len(rooms),)))
            self.refused((rooms + rooms, ends))

    def test_rooms_lines_or_ends_that_lack(self):
        for text in ("a", "ab", "aba", "banana", "mississippi", "abcabcabcabcabcabcabcabc"):
            rooms, ends = machine(text)
            self.refused((rooms[:-1], ends))
            self.refused((rooms, ()))
            for place in range(len(ends)):
                self.refused((rooms, ends[:place] + ends[place + 1:]))
            for number, lines in enumerate(rooms):
                for place in range(len(lines)):
                    room = lines[:place] + lines[place + 1:]
                    self.refused((rooms[:number] + (room,) + rooms[number + 1:], ends))

    def test_lines_or_ends_too_many_or_out_of_order(self):
        for text in ("ab", "aba", "banana", "mississippi"):
            rooms, ends = machine(text)
            self.refused((rooms, ends[::-1]))
            self.refused((rooms, ends + ends[-1:]))
            self.refused((rooms, tuple(range(len(rooms)))))
            for number, lines in enumerate(rooms):
                for room in (lines[::-1], lines + lines[-1:], lines + (("z", len(rooms) - 1),)):
                    if room != lines:
                        self.refused((rooms[:number] + (room,) + rooms[number + 1:], ends))

    def test_goals_and_ends_that_are_no_rooms(self):
        for goal in (-1, -2, 2, 3, 25, 10 ** 30, -10 ** 30, 10 ** 5000, None, "1", (1,), [1]):
            self.refused((((("a", goal),), ()), (0, 1)))
            self.refused((((("a", 1),), ()), (0, goal)))
            self.refused((((("a", 1),), (("a", goal),)), (0, 1)))
            self.refused((((("a", 1),), ()), (0, 1, goal)))
        self.refused((((("a", 0),),), (1,)))
        self.refused((((),), (1,)))

    def test_ways_in_a_circle(self):
        every_letter = tuple((letter, 0) for letter in ALPHABET)
        self.refused((((("a", 0),),), (0,)))
        self.refused(((every_letter,), (0,)))
        self.refused((((("", 0),),), (0,)))
        self.refused((((("a", 1),), (("a", 0),)), (0, 1)))
        self.refused((((("a", 1),), (("a", 1),)), (0, 1)))
        self.refused((((("a", 1),), (), (("a", 2),)), (0, 1)))
        for text in ("a", "ab", "banana", "a" * 24):
            rooms, ends = machine(text)
            for goal in range(len(rooms)):
                self.refused((rooms[:-1] + ((("z", goal),),), ends))

    def test_more_ways_than_could_be_walked_one_by_one(self):
        rooms = tuple(tuple((letter, number + 1) for letter in ALPHABET) for number in range(30)) + ((),)
        self.refused((rooms, (0, 30)))
        self.refused((rooms[6:], (0, 24)))
        crossed = tuple(tuple((letter, goal) for goal, letter in enumerate(ALPHABET)) for _ in ALPHABET)
        self.refused((crossed, tuple(range(26))))

    def test_every_single_change(self):
        texts = {}
        # A change adds a few rooms at most, and a text has fewer letters than its machine has rooms.
        for text in words_up_to("abc", 7) + list(ALPHABET):
            texts[repr(slow_machine(text))] = text
        for text in ("", "a", "b", "aa", "ab", "ba", "aba", "aab"):
            for thing in changed(machine(text)):
                if repr(thing) in texts:
                    self.assertEqual(text_of(thing), texts[repr(thing)])
                else:
                    self.refused(thing)


class Interface(unittest.TestCase):
    def test_arguments_are_called_as_told(self):
        for call, names in ((machine, ["text"]), (led, ["machine", "word"]), (text_of, ["machine"])):
            self.assertEqual(list(inspect.signature(call).parameters), names)


if __name__ == "__main__":
    unittest.main()
