"""Settings: which clip each track of a stage entered, and at which tick."""

from barclips.errors import BadSetting, EmptyClip, OffGrid


def check_setting(stage, setting):
    """Refuse what is no setting of the stage, and return the number of tracks that are not silent."""
    if len(setting) != len(stage.tracks):
        raise BadSetting(len(setting))
    entered = 0
    for track, entry in zip(stage.tracks, setting):
        if entry is not None:
            check_entry(track, entry)
            entered = entered + 1
    return entered


def check_entry(track, entry):
    """Refuse what is no entry of the track."""
    name, tick = entry
    clip = track.clip_of(name)
    if clip.length is None:
        raise EmptyClip(name)
    if tick not in clip.grid:
        raise OffGrid(tick)


def place_at(track, entry, tick):
    """Return the place of the track at this tick, or None if it is silent."""
    if entry is None:
        return None
    name, entered = entry
    return (track.start_of(name) + tick - entered) % track.period


def places_at(stage, setting, tick):
    """Return the list of the places of all tracks at this tick, None for a silent one."""
    check_setting(stage, setting)
    return [place_at(track, entry, tick) for track, entry in zip(stage.tracks, setting)]


def playing(stage, setting, tick):
    """Return a list with None or a tuple (clip name, turn, step) for each track."""
    places = places_at(stage, setting, tick)
    return [None if place is None else track.where(place) for track, place in zip(stage.tracks, places)]


def closers(stage, setting, tick):
    """Return the list of the tuples (track name, place) of the tracks at a guarded place."""
    places = places_at(stage, setting, tick)
    return [(track.name, place) for track, place in zip(stage.tracks, places) if place in track.places]


def moved(setting, ticks):
    """Return the setting, as a list, with entries that are later by so many ticks."""
    return [None if entry is None else (entry[0], entry[1] + ticks) for entry in setting]


def same_sound(stage, first, second):
    """Tell whether the two settings play the same at every tick."""
    # Each place has a step of its own, and at each tick every track goes on by one place.
    return places_at(stage, first, 0) == places_at(stage, second, 0)
