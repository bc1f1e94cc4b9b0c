"""A text packed by the order of its turnings, and unpacked again."""

from tailyard.errors import NoPack
from tailyard.texts import all_letters


def packed(text):
    if text == "":
        return ("", 0)
    ordered = sorted(turnings(text))
    last = "".join([turning[-1] for turning in ordered])
    return (last, ordered.index(text))


def turnings(text):
    return [text[place:] + text[:place] for place in range(len(text))]


def unpacked(last, place):
    text = walked_back(last, place)
    # The walk tells some text for every place, so only packing it again shows whether the pair is its pair.
    # The error's words leave the place out: a whole number may have too many digits to be written.
    if not all_letters(last) or packed(text) != (last, place):
        raise NoPack("the pair of no text")
    return text


def walked_back(last, place):
    if place < 0 or place >= len(last):
        return ""
    # Turnings that begin with the same letter stand in the same order as those that end with it,
    # so sorted, which leaves letters that are alike as they stood, tells where each goes on.
    further = sorted(range(len(last)), key=lambda row: last[row])
    letters = []
    row = place
    for step in range(len(last)):
        row = further[row]
        letters.append(last[row])
    return "".join(letters)
