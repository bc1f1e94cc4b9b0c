"""The least machine of the tails of a text, where words lead in it, and the text of a machine."""

from tailyard.errors import NoMachine
from tailyard.parts import parts, where
from tailyard.texts import MOST_LETTERS, is_text


def machine(text):
    room_of = rooms_by_part(text)
    ways = [{} for room in range(max(room_of.values()) + 1)]
    for part in room_of:
        if part != "":
            ways[room_of[part[:-1]]][part[-1]] = room_of[part]
    rooms = tuple([tuple(sorted(lines.items())) for lines in ways])
    ends = tuple(sorted(set([room_of[text[place:]] for place in range(len(text) + 1)])))
    return (rooms, ends)


def rooms_by_part(text):
    # Parts that end at the same places go on to tails by the same words, and no others do:
    # so the fewest rooms are one for each such set of places. Parts come in the order of the numbering.
    numbers = {}
    room_of = {}
    for part in parts(text):
        room_of[part] = numbers.setdefault(end_places(text, part), len(numbers))
    return room_of


def end_places(text, part):
    return tuple([place + len(part) for place in where(text, part)])


def led(machine, word):
    rooms = machine[0]
    # A machine may have no room at all, and then not even the empty word leads to one.
    room = 0 if rooms else None
    for letter in word:
        if room is None:
            return None
        room = dict(rooms[room]).get(letter)
    return room


def text_of(machine):
    if not has_form(machine):
        raise NoMachine("not of the form of a machine")
    text = longest_word(machine[0])
    if not is_text(text) or not is_machine_of(machine, text):
        raise NoMachine("the machine of no text")
    return text


def is_machine_of(thing, text):
    return machine(text) == thing


def has_form(thing):
    # Only what a walk needs and what == can't see (a truth is equal to a number) is asked here:
    # the rest shows when the thing is held beside the machine of its longest word.
    return is_pair(thing) and are_rooms(thing[0]) and are_numbers(thing[1])


def is_pair(thing):
    return isinstance(thing, tuple) and len(thing) == 2


def are_rooms(thing):
    return isinstance(thing, tuple) and len(thing) > 0 and all([is_room(room, len(thing)) for room in thing])


def is_room(thing, count):
    return isinstance(thing, tuple) and all([is_line(line, count) for line in thing])


def is_line(thing, count):
    return is_pair(thing) and isinstance(thing[0], str) and is_number(thing[1]) and 0 <= thing[1] < count


def are_numbers(thing):
    return isinstance(thing, tuple) and all([is_number(part) for part in thing])


def is_number(thing):
    return isinstance(thing, int) and not isinstance(thing, bool)


def longest_word(rooms):
    # One step more than a text has letters: in a circle, or by too long a way, the word gets too long for a text.
    longest = ""
    words = {0: ""}
    for step in range(MOST_LETTERS + 1):
        words = one_line_further(rooms, words)
        for word in words.values():
            longest = word
    return longest


def one_line_further(rooms, words):
    # In the machine of a text no two words of equally many letters lead to the same room,
    # so one word for each room is enough, and other machines can't make them too many.
    further = {}
    for room, word in words.items():
        for letter, goal in rooms[room]:
            further[goal] = word + letter
    return further
