"""Tracks: rings of clips that are played for ever."""

from barclips.errors import BadName, BadNumber, EmptyClip, NoClips, TooMany, Twice, Unknown
from barclips.names import first_twice, is_name


def guarded_places(clips):
    """Return the ascending places whose step is guarded by the clip that is played there."""
    places = []
    start = 0
    for clip in clips:
        # The guards of an empty clip wait for its length.
        if clip.length is not None:
            for turn in range(clip.rounds):
                places.extend([start + turn * clip.length + guard for guard in clip.guards])
        start = start + clip.span
    return tuple(places)


class Track:
    """A ring of one to three clips, or of a single empty clip."""

    CLIPS = 3

    def __init__(self, name, *clips):
        if not is_name(name):
            raise BadName(name)
        check_ring(name, clips)
        self.name = name
        self.clips = clips
        self.period = sum([clip.span for clip in clips])
        self.places = guarded_places(clips)

    @property
    def empty(self):
        """True if the only clip is empty."""
        return self.clips[0].length is None

    def __iter__(self):
        return iter(self.clips)

    def __contains__(self, x):
        return x in [clip.name for clip in self.clips]

    def start_of(self, name):
        """Return the place at which the first round of this clip begins."""
        start = 0
        for clip in self.clips:
            if clip.name == name:
                return start
            start = start + clip.span
        raise Unknown(name)

    def clip_of(self, name):
        """Return the clip of this name."""
        for clip in self.clips:
            if clip.name == name:
                return clip
        raise Unknown(name)

    def place_of(self, name, turn, step):
        """Return the place of a step of a round of this clip."""
        clip = self.clip_of(name)
        if clip.length is None:
            raise EmptyClip(name)
        if turn < 0 or turn >= clip.rounds:
            raise BadNumber(turn)
        if step < 0 or step >= clip.length:
            raise BadNumber(step)
        return self.start_of(name) + turn * clip.length + step

    def where(self, place):
        """Return the clip name, the turn and the step of a place."""
        if self.empty:
            raise EmptyClip(self.clips[0].name)
        index = 0
        rest = place % self.period
        while rest >= self.clips[index].span:
            rest = rest - self.clips[index].span
            index = index + 1
        clip = self.clips[index]
        return (clip.name, rest // clip.length, rest % clip.length)


def check_ring(name, clips):
    """Refuse clips that make no ring for the track of this name."""
    if len(clips) == 0:
        raise NoClips(name)
    if len(clips) > Track.CLIPS:
        raise TooMany("clips", Track.CLIPS)
    for clip in clips:
        if clip.length is None and len(clips) > 1:
            raise EmptyClip(clip.name)
    twice = first_twice([clip.name for clip in clips])
    if twice is not None:
        raise Twice(twice)
