"""The form of names, and names that occur twice."""

MOST_CHARACTERS = 12
LETTERS = "abcdefghijklmnopqrstuvwxyz"
CHARACTERS = "abcdefghijklmnopqrstuvwxyz0123456789"


def is_name(text):
    """Tell whether the text is of the form of a name."""
    if text == "" or len(text) > MOST_CHARACTERS:
        return False
    return text[0] in LETTERS and all([character in CHARACTERS for character in text])


def first_twice(names):
    """Return the first name that equals an earlier one, or None if there is none."""
    seen = set()
    for name in names:
        if name in seen:
            return name
        seen.add(name)
    return None
