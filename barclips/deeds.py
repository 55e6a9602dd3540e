"""Texts of deeds, a line for each of them."""

from barclips.digits import is_number
from barclips.errors import BadLine

NAMED = ("press", "stop", "hold", "drop", "arm")


def read_deed(line):
    """Return the tuple of the deed that the line tells, or None if it tells none."""
    words = line.split(" ")
    if "" in words:
        return None
    if len(words) == 2 and words[0] in NAMED:
        return (words[0], words[1])
    if len(words) == 2 and words[0] == "wait" and is_number(words[1]):
        return ("wait", int(words[1]))
    if len(words) == 3 and words[0] == "hold" and is_number(words[2]):
        return ("hold", words[1], int(words[2]))
    return None


def read_deeds(text):
    """Return the list of the deeds of a text."""
    if text == "":
        return []
    deeds = []
    for index, line in enumerate(text.split("\n")):
        deed = read_deed(line)
        if deed is None:
            raise BadLine(index + 1)
        deeds.append(deed)
    return deeds


def perform(desk, text):
    """Carry out the deeds of a text as one attempt, and return the list of the events that they add."""
    return desk.attempt(read_deeds(text))
