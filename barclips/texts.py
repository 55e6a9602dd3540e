"""Reading the text of a stage."""

from barclips.digits import read_number
from barclips.errors import BadLine, BadName, BadWord, BarclipsError
from barclips.grids import Grid
from barclips.names import is_name
from barclips.sounds import Clip, Lead

# A name, a grid and a length stand at the beginning of each clip and each lead.
FEWEST_WORDS = 3


def check_words(sound, words):
    """Refuse words that are not exactly those of the sound that was read from them."""
    if sound.words() != words:
        raise BadWord(" ".join(words))


def read_names(words):
    """Return these words, all of which are names."""
    for word in words:
        if not is_name(word):
            raise BadName(word)
    return words


def read_length(word):
    """Return the length of a clip."""
    return None if word == "empty" else read_number(word)


def read_clip(words):
    """Return the clip that has these words."""
    if len(words) < FEWEST_WORDS:
        raise BadWord(" ".join(words))
    rounds, rest = "1", words[FEWEST_WORDS:]
    if len(rest) > 1 and rest[0] == "rounds":
        rounds, rest = rest[1], rest[2:]
    clip = Clip(
        words[0],
        grid=Grid.read(words[1]),
        length=read_length(words[2]),
        rounds=read_number(rounds),
        guards=[read_number(word) for word in rest[1:]],
    )
    # So the word before the guards is the right one, and nothing is written that may be left out.
    check_words(clip, words)
    return clip


def read_lead(words):
    """Return the lead that has these words."""
    if len(words) < FEWEST_WORDS:
        raise BadWord(" ".join(words))
    lead = Lead(
        words[0],
        grid=Grid.read(words[1]),
        length=read_number(words[2]),
        stops=read_names(words[FEWEST_WORDS + 1:]),
    )
    check_words(lead, words)
    return lead


class Draft:
    """What the lines of a text have told so far."""

    def __init__(self):
        # Tuples of the name of a track and the list of its clips.
        self.rows = []
        self.leads = []

    def take(self, line):
        """Take the next line, or raise an error if it is faulty."""
        word, *words = line.split(" ")
        if word == "lead":
            self.leads.append(read_lead(words))
        elif word == "track" and len(words) == 1 and len(self.leads) == 0:
            self.rows.append((read_names(words)[0], []))
        elif word == "clip" and len(self.rows) > 0 and len(self.leads) == 0:
            self.rows[-1][1].append(read_clip(words))
        else:
            raise BadWord(line)


def read_draft(text):
    """Return the draft of a whole text."""
    draft = Draft()
    if text == "":
        return draft
    for index, line in enumerate(text.split("\n")):
        try:
            draft.take(line)
        except BarclipsError:
            raise BadLine(index + 1) from None
    return draft
