"""The tails of a text in order, and how far neighbours among them begin alike."""


def tails(text):
    return tuple(sorted(range(len(text)), key=lambda place: text[place:]))


def neighbours(text):
    ordered = [text[place:] for place in tails(text)]
    return tuple([letters_alike(one, other) for one, other in zip(ordered, ordered[1:])])


def letters_alike(one, other):
    alike = 0
    for letter, beside in zip(one, other):
        if letter != beside:
            return alike
        alike = alike + 1
    return alike
