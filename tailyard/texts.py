"""What a text is."""

MOST_LETTERS = 24


def is_text(thing):
    return isinstance(thing, str) and len(thing) <= MOST_LETTERS and all_letters(thing)


def all_letters(signs):
    # islower and its like hold for signs beyond a to z, too, so the bounds are asked.
    return all(["a" <= sign <= "z" for sign in signs])
