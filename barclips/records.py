"""What a recording may do to the waits of a lead."""

from barclips.errors import BadNumber, NotEmpty
from barclips.waits import longest

MOST_RECORDINGS = 16


def recordings(stage, name, lead, most):
    """Return the list of the longest waits if the clip of this name lasts 1, 2 .. `most` steps of its grid."""
    clip = stage.find_clip(name)
    if clip.length is not None:
        raise NotEmpty(name)
    stage.find_lead(lead)
    if most < 1 or most > MOST_RECORDINGS:
        raise BadNumber(most)
    lengths = [clip.grid.step * (index + 1) for index in range(most)]
    return [longest(stage.recorded(name, length), lead).bars for length in lengths]
