"""The borders and periods of a text."""


def borders(text):
    return tuple([length for length in range(len(text) - 1, -1, -1) if text.endswith(text[:length])])


def periods(text):
    # A period moves the text onto itself, and what then lies over itself is a border: so each leaves the other.
    return tuple([len(text) - border for border in borders(text)])
