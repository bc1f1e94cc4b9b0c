"""Texts to try, and the document's words put into code as plainly and slowly as they stand."""

import itertools

ALPHABET = "abcdefghijklmnopqrstuvwxyz"
ORDINARY = ("banana", "mississippi", "abracadabra", "abcabcabcabcabcabcabcabc", "abaababaabaababaababaaba",
            "zyxwvutsrqponmlkjihgfedc", "thequickbrownfoxjumpsove")
ALL_ALIKE = ("aa", "bbb", "zzzzzzz", "a" * 23, "z" * 24)
ALL_UNLIKE = ("ab", "ba", "cab", "qwertyuiop", ALPHABET[:24], ALPHABET[:1:-1])
AGAIN_AND_AGAIN = ("abab", "baba", "abaaba", "abcabcabc", "baabaabaa", "ab" * 12, "cab" * 8, "baab" * 6, "zyxzyz" * 4,
                   "abcdefghijkl" * 2)
FULL = ("a" * 24, "a" * 23 + "b", "b" + "a" * 23, "ab" * 12, "a" * 12 + "b" * 12, "aabbabaababbbaabaaabbbba")
# A text may lie somewhat beyond 24 letters, and is not refused for it.
BEYOND = ("a" * 25, ALPHABET, "ab" * 15)


def words_up_to(letters, longest):
    words = []
    for length in range(longest + 1):
        words.extend("".join(word) for word in itertools.product(letters, repeat=length))
    return words


SMALL = words_up_to("ab", 7) + words_up_to("abc", 4)
TEXTS = ("", "a", "z") + ALL_ALIKE + ALL_UNLIKE + AGAIN_AND_AGAIN + FULL + ORDINARY + tuple(SMALL)


def nested(thing, depth, kind):
    for _ in range(depth):
        thing = kind([thing])
    return thing


def kinds_within(thing):
    """The kinds of a thing and of all it holds."""
    kinds = {type(thing)}
    if isinstance(thing, (list, tuple)):
        for inner in thing:
            kinds |= kinds_within(inner)
    return kinds


def same(one, other):
    """Equal, and of the same kinds throughout: a truth is not the same as a number."""
    if type(one) is not type(other):
        return False
    if isinstance(one, (list, tuple)):
        return len(one) == len(other) and all(same(inner, beside) for inner, beside in zip(one, other))
    return one == other


def slow_parts(text):
    """By the words of 0.4: what stands between two places, in their order."""
    found = {text[start:end] for start in range(len(text) + 1) for end in range(start, len(text) + 1)}
    return tuple(sorted(found, key=lambda part: (len(part), part)))


def slow_where(text, part):
    ends = range(len(text) + 1)
    return tuple(start for start in ends if any(start <= end and text[start:end] == part for end in ends))


def slow_ends(text, part):
    """The places at which a part ends."""
    return tuple(end for end in range(len(text) + 1) if end >= len(part) and text[end - len(part):end] == part)


def slow_tails(text):
    """All tails, the empty one among them."""
    return [text[place:] for place in range(len(text) + 1)]


def slow_machine(text):
    """By 0.2 (d) a room is a set of end places; by 4.2 the first part of each, in the order of parts, numbers it."""
    rooms = []
    firsts = []
    for part in slow_parts(text):
        if slow_ends(text, part) not in rooms:
            rooms.append(slow_ends(text, part))
            firsts.append(part)
    lines = tuple(tuple((letter, rooms.index(slow_ends(text, first + letter)))
                        for letter in sorted(set(text)) if first + letter in slow_parts(text)) for first in firsts)
    return (lines, tuple(number for number, room in enumerate(rooms) if len(text) in room))


def ways_through(machine):
    """Every word that leads to a room, with this room, by the words of 4.1. The machine has no circle."""
    rooms = machine[0]
    found = []
    waiting = [("", 0)]
    while waiting:
        word, room = waiting.pop()
        found.append((word, room))
        waiting.extend((word + letter, goal) for letter, goal in rooms[room])
    return found
