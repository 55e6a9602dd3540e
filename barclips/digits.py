"""Written numbers."""

from barclips.errors import BadWord

MOST_DIGITS = 30


def is_number(text):
    """Tell whether the text is a number as the program reads it."""
    # The length comes first: a text may have thousands of digits.
    if len(text) > MOST_DIGITS or not (text.isascii() and text.isdigit()):
        return False
    return text == "0" or not text.startswith("0")


def read_number(word):
    """Return the number that has this word."""
    if not is_number(word):
        raise BadWord(word)
    return int(word)
