"""The parts of a text, where they begin, and what it has twice, shares or lacks."""


def parts(text):
    found = []
    for length in range(len(text) + 1):
        found.extend(sorted(set(parts_of_length(text, length))))
    return tuple(found)


def parts_of_length(text, length):
    return [text[place:place + length] for place in range(len(text) - length + 1)]


def count_parts(text):
    return len(parts(text))


def where(text, part):
    # The place behind all letters is walked, too: the empty part begins there.
    return tuple([place for place in range(len(text) + 1) if text[place:place + len(part)] == part])


def longest_twice(text):
    return first_longest([part for part in parts(text) if len(where(text, part)) > 1])


def longest_shared(one, other):
    return first_longest([part for part in parts(one) if part in other])


def first_longest(ordered):
    # Of equally long ones max keeps the one it meets first, which is the first in order here.
    return max(ordered, key=len, default="")


def missing(text, letters):
    words = [""]
    while words:
        words = one_letter_longer(words, letters)
        for word in words:
            if word not in text:
                return word
    # Reached without letters alone: the one word is then the empty one, and no text lacks it.
    return None


def one_letter_longer(words, letters):
    # Words in order and rising letters give longer words in order.
    longer = []
    for word in words:
        longer.extend([word + letter for letter in letters])
    return longer
