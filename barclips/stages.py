"""Stages: tracks and the leads that are held over them."""

from barclips.errors import NotEmpty, TooMany, Twice, Unknown
from barclips.names import first_twice
from barclips.sounds import Clip, Lead
from barclips.texts import read_draft
from barclips.tracks import Track


def clips_of(tracks):
    """Return the clips of all these tracks in order."""
    return [clip for track in tracks for clip in track.clips]


def names_of(tracks, leads):
    """Return all names in the order in which they are compared."""
    names = []
    for track in tracks:
        names.append(track.name)
        names.extend([clip.name for clip in track.clips])
    return names + [lead.name for lead in leads]


def named(things, name):
    """Return the track, clip or lead of this name."""
    for thing in things:
        if thing.name == name:
            return thing
    raise Unknown(name)


def without_stops(lead, names):
    """Return the lead without the stops of these names."""
    stops = [stop for stop in lead.stops if stop not in names]
    return Lead(lead.name, grid=lead.grid, length=lead.length, stops=stops)


def line_of(word, sound):
    """Return the line of a text that begins with this word and describes the sound."""
    return " ".join([word] + sound.words())


class Stage:
    """At most six tracks, with at most six guarded places, and at most four leads."""

    TRACKS = 6
    LEADS = 4
    CLIPS = 8
    GUARDS = 6

    def __init__(self, tracks, leads=()):
        check_parts(tracks, leads)
        self.tracks = tuple(tracks)
        self.leads = tuple(leads)

    def find_track(self, name):
        """Return the track of this name."""
        return named(self.tracks, name)

    def find_lead(self, name):
        """Return the lead of this name."""
        return named(self.leads, name)

    def find_clip(self, name):
        """Return the clip of this name."""
        return named(clips_of(self.tracks), name)

    def track_with(self, name):
        """Return the track that has the clip of this name."""
        for track in self.tracks:
            if name in track:
                return track
        raise Unknown(name)

    def recorded(self, name, length):
        """Return a new stage in which the empty clip of this name has this length."""
        clip = self.find_clip(name)
        if clip.length is not None:
            raise NotEmpty(name)
        guards = [guard for guard in clip.guards if guard < length]
        # This refuses a length below 1.
        full = Clip(name, grid=clip.grid, length=length, guards=guards)
        # An empty clip is the only one of its track.
        tracks = [Track(track.name, full) if name in track else track for track in self.tracks]
        return Stage(tracks, self.leads)

    def without(self, *names):
        """Return a new stage without the tracks of these names."""
        for name in names:
            self.find_track(name)
        tracks = [track for track in self.tracks if track.name not in names]
        return Stage(tracks, [without_stops(lead, names) for lead in self.leads])

    def write(self):
        """Return the text of the stage."""
        lines = []
        for track in self.tracks:
            lines.append(f"track {track.name}")
            lines.extend([line_of("clip", clip) for clip in track.clips])
        lines.extend([line_of("lead", lead) for lead in self.leads])
        return "\n".join(lines)

    @classmethod
    def read(cls, text):
        """Return the stage that has this text."""
        draft = read_draft(text)
        tracks = [Track(name, *clips) for name, clips in draft.rows]
        return cls(tracks, draft.leads)


def check_parts(tracks, leads):
    """Refuse tracks and leads that make no stage."""
    clips = clips_of(tracks)
    if len(tracks) > Stage.TRACKS:
        raise TooMany("tracks", Stage.TRACKS)
    if len(leads) > Stage.LEADS:
        raise TooMany("leads", Stage.LEADS)
    if len(clips) > Stage.CLIPS:
        raise TooMany("clips", Stage.CLIPS)
    twice = first_twice(names_of(tracks, leads))
    if twice is not None:
        raise Twice(twice)
    check_stops(tracks, leads)
    if sum([len(clip.guards) * clip.rounds for clip in clips]) > Stage.GUARDS:
        raise TooMany("guards", Stage.GUARDS)


def check_stops(tracks, leads):
    """Refuse the first stop that is not the name of a track."""
    names = [track.name for track in tracks]
    for lead in leads:
        for stop in lead.stops:
            if stop not in names:
                raise Unknown(stop)
