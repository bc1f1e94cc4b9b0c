"""Promises 0.1, 0.2 and 0.3: what holds of all functions together."""

import copy
import importlib
import inspect
import math
import unittest

from samples import BEYOND, TEXTS, kinds_within, nested, same, slow_ends, slow_tails, ways_through, words_up_to
from tailyard.borders import borders, periods
from tailyard.errors import NoMachine, NoPack, TailError
from tailyard.machines import led, machine, text_of
from tailyard.order import neighbours, tails
from tailyard.packing import packed, unpacked
from tailyard.parts import count_parts, longest_shared, longest_twice, missing, parts, where
from tailyard.texts import is_text

INTERFACE = {
    "texts": {"is_text": ["thing"]},
    "parts": {"parts": ["text"], "count_parts": ["text"], "where": ["text", "part"], "longest_twice": ["text"],
              "longest_shared": ["one", "other"], "missing": ["text", "letters"]},
    "order": {"tails": ["text"], "neighbours": ["text"]},
    "packing": {"packed": ["text"], "unpacked": ["last", "place"]},
    "machines": {"machine": ["text"], "led": ["machine", "word"], "text_of": ["machine"]},
    "borders": {"borders": ["text"], "periods": ["text"]},
}


class CountsOfParts(unittest.TestCase):
    """0.2 (a)"""

    def test_by_the_order_of_the_tails_and_what_neighbours_have_alike(self):
        # Each tail adds the heads of it that the one ahead does not begin with; the empty part comes on top.
        for text in TEXTS + BEYOND:
            new = sum(len(text) - place for place in tails(text)) - sum(neighbours(text))
            self.assertEqual(count_parts(text), new + 1, text)
            self.assertEqual(len(parts(text)), new + 1, text)

    def test_by_the_ways_through_the_machine(self):
        for text in TEXTS + BEYOND:
            self.assertEqual(count_parts(text), len(ways_through(machine(text))), text)


class TailsSideBySide(unittest.TestCase):
    """0.2 (b)"""

    def test_tails_that_begin_with_a_part_stand_side_by_side(self):
        for text in TEXTS + BEYOND:
            order = tails(text)
            for part in parts(text):
                standing = [row for row, place in enumerate(order) if text.startswith(part, place)]
                self.assertEqual(standing, list(range(min(standing, default=0), max(standing, default=-1) + 1)))
                # The last place, where the empty part begins as well, has no tail of one letter or more.
                begins = [place for place in where(text, part) if place < len(text)]
                self.assertEqual(sorted(order[row] for row in standing), begins)


class Packing(unittest.TestCase):
    """0.2 (c)"""

    def test_what_was_packed_is_unpacked_to_the_text(self):
        for text in TEXTS:
            self.assertEqual(unpacked(*packed(text)), text)

    def test_nothing_else_is_unpacked(self):
        pairs = {packed(text) for text in words_up_to("ab", 6)}
        for last in words_up_to("ab", 6):
            for place in range(-1, len(last) + 2):
                if (last, place) in pairs:
                    self.assertEqual(packed(unpacked(last, place)), (last, place))
                else:
                    self.assertRaises(NoPack, unpacked, last, place)


class LeastMachine(unittest.TestCase):
    """0.2 (d)"""

    def test_two_parts_lead_to_the_same_room_just_if_they_end_at_the_same_places(self):
        for text in TEXTS:
            told = machine(text)
            pairs = {(led(told, part), slow_ends(text, part)) for part in parts(text)}
            self.assertEqual(len(pairs), len({room for room, _ in pairs}))
            self.assertEqual(len(pairs), len({ends for _, ends in pairs}))
            self.assertNotIn(None, {room for room, _ in pairs})

    def test_there_is_no_lesser_machine(self):
        # Rooms from which unlike words lead to ends can't be one room in any machine, and each is led to.
        for text in TEXTS:
            told = machine(text)
            onward = {}
            for part in parts(text):
                words = tuple(tail[len(part):] for tail in slow_tails(text) if tail.startswith(part))
                onward.setdefault(led(told, part), set()).add(words)
            self.assertEqual(sorted(onward), list(range(len(told[0]))))
            every = [words for among in onward.values() for words in among]
            self.assertEqual(len(every), len(told[0]))
            self.assertEqual(len(set(every)), len(told[0]))

    def test_bounds_of_rooms_and_lines(self):
        for text in TEXTS + BEYOND:
            rooms = machine(text)[0]
            if len(text) >= 2:
                self.assertLess(len(rooms), 2 * len(text))
            if len(text) >= 3:
                self.assertLessEqual(sum(len(lines) for lines in rooms), 3 * len(text) - 4)

    def test_bounds_are_reached(self):
        self.assertEqual(len(machine("ab" + "b" * 22)[0]), 2 * 24 - 1)
        self.assertEqual(sum(len(lines) for lines in machine("a" + "b" * 22 + "c")[0]), 3 * 24 - 4)


class BordersAndPeriods(unittest.TestCase):
    """0.2 (e)"""

    def test_a_period_just_if_the_border_that_is_left(self):
        for text in TEXTS + BEYOND:
            for far in range(1, len(text) + 1):
                self.assertEqual(far in periods(text), len(text) - far in borders(text))

    def test_two_periods_leave_the_greatest_number_that_divides_both(self):
        for text in TEXTS + BEYOND:
            told = periods(text)
            for one in told:
                for other in told:
                    shared = math.gcd(one, other)
                    if one + other - shared <= len(text):
                        self.assertIn(shared, told)


def calls():
    """Each function, with arguments of it, wrong ones among them; made anew each time."""
    circle = (((("a", 0),),), (0,))
    made = [(is_text, (thing,)) for thing in ("abc", "A", 3, True, None, ["a", ["b"]], nested("a", 30, list))]
    for text in ("", "a", "aaaa", "banana", "abcabc", "ab" * 12):
        for call in (parts, count_parts, longest_twice, tails, neighbours, packed, machine, borders, periods):
            made.append((call, (text,)))
        made.extend([(where, (text, "a")), (where, (text, "")), (longest_shared, (text, "bandana")),
                     (missing, (text, "ab")), (unpacked, packed(text)), (unpacked, (text, 1)), (unpacked, (text, -1)),
                     (led, (machine(text), "a")), (led, (machine(text), "")), (led, (machine(text), "zz")),
                     (text_of, (machine(text),)), (text_of, (list(machine(text)),)),
                     (text_of, ((list(machine(text)[0]), list(machine(text)[1])),))])
    made.extend([(led, (circle, "aaa")), (text_of, (circle,)), (text_of, (nested("a", 30, list),)),
                 (text_of, ([[[["a", 1]], []], [0, 1]],)), (text_of, ((([["a", 1]], ()), (0, 1)),)),
                 (text_of, (7,)), (text_of, (None,))])
    return made


def answer(call, given):
    try:
        return ("told", call(*given))
    except TailError as error:
        return ("refused", type(error).__name__)


class ToldAgain(unittest.TestCase):
    """0.3"""

    def test_arguments_are_not_changed(self):
        for call, given in calls():
            kept = copy.deepcopy(given)
            answer(call, given)
            self.assertTrue(same(given, kept), (call.__name__, kept))

    def test_the_same_is_told_again_whatever_was_asked_between(self):
        made = calls()
        first = [answer(call, given) for call, given in made]
        for asked, told in ((made, first), (made[::-1], first[::-1]), (calls(), first)):
            for (call, given), before in zip(asked, told):
                self.assertTrue(same(answer(call, given), before), (call.__name__, given))

    def test_only_promised_kinds_are_told(self):
        for call, given in calls():
            how, told = answer(call, given)
            if how == "told" and call is not is_text:
                self.assertLessEqual(kinds_within(told), {tuple, str, int, type(None)}, call.__name__)

    def test_each_refusal_by_its_own_error(self):
        refused = {(call, told) for call, given in calls() for how, told in [answer(call, given)] if how == "refused"}
        self.assertEqual(refused, {(unpacked, NoPack.__name__), (text_of, NoMachine.__name__)})


class Interface(unittest.TestCase):
    def test_names_and_arguments_are_there_as_they_stand(self):
        for file, functions in INTERFACE.items():
            module = importlib.import_module("tailyard." + file)
            for name, arguments in functions.items():
                self.assertEqual(list(inspect.signature(getattr(module, name)).parameters), arguments, name)

    def test_errors(self):
        for refusal in (NoPack, NoMachine):
            self.assertTrue(issubclass(refusal, TailError))


if __name__ == "__main__":
    unittest.main()
