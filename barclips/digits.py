"""Written numbers."""

MOST_DIGITS = 30


def is_number(text):
    """Tell whether the text is a number as the program reads it."""
    # The length comes first: a text may have thousands of digits.
    if len(text) > MOST_DIGITS or not (text.isascii() and text.isdigit()):
        return False
    return text == "0" or not text.startswith("0")
