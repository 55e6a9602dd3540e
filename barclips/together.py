"""Clips that sound together, each at a wished step."""

from itertools import combinations

from barclips.errors import Twice
from barclips.grids import Grid
from barclips.settings import check_setting, place_at
from barclips.ways import entry_at, moments_of


class Meeting:
    """A tick, and a setting that meets all wishes at this tick."""

    def __init__(self, tick, setting):
        self.tick = tick
        self.setting = setting


def wished_places(stage, wishes):
    """Return the list of the tuples (track, wished places) of the wishes."""
    found = []
    for name, step in wishes:
        track = stage.track_with(name)
        # This refuses an empty clip and a wrong step.
        places = [track.place_of(name, turn, step) for turn in range(track.clip_of(name).rounds)]
        if track.name in [earlier.name for earlier, _ in found]:
            raise Twice(track.name)
        found.append((track, places))
    return found


def common_ticks(choices):
    """Return tuples (grid, picks): the common ticks of one grid from each list, and what stands beside them.

    Each list holds tuples (grid, what stands beside it). The same grid is returned once.
    """
    found = [(Grid(1), [])]
    for options in choices:
        joined = {}
        for ticks, picks in found:
            for grid, pick in options:
                both = Grid.common(ticks, grid)
                if both is not None:
                    joined[(both.step, both.offset)] = (both, picks + [pick])
        found = list(joined.values())
    return found


def options_of(track, places):
    """Return tuples (moments, (track, clip, place)) of all entries with the track at one of the places."""
    return [
        (moments_of(track, place, clip), (track, clip, place)) for place in places for clip in track.clips
    ]


def setting_at(stage, picks, tick):
    """Return the setting, as a tuple, with the picked entries of some tracks."""
    entries = {track.name: entry_at(track, clip, place, tick) for track, clip, place in picks}
    return tuple([entries.get(track.name) for track in stage.tracks])


def together(stage, *wishes):
    """Return a meeting of all wishes, or None if there is none."""
    wished = wished_places(stage, wishes)
    found = common_ticks([options_of(track, places) for track, places in wished])
    if len(found) == 0:
        return None
    ticks, picks = found[0]
    return Meeting(ticks.offset, setting_at(stage, picks, ticks.offset))


def apart_pair(stage, *wishes):
    """Return the indexes (i, j) of the first two wishes that are never met at one tick, or None."""
    options = [options_of(track, places) for track, places in wished_places(stage, wishes)]
    for first, second in combinations(range(len(options)), 2):
        if len(common_ticks([options[first], options[second]])) == 0:
            return (first, second)
    return None


def next_meeting(stage, setting, since, *wishes):
    """Return the least tick, not before since, at which the setting meets all wishes, or None."""
    check_setting(stage, setting)
    begins = {track.name: place_at(track, entry, 0) for track, entry in zip(stage.tracks, setting)}
    choices = []
    for track, places in wished_places(stage, wishes):
        begin = begins[track.name]
        # A silent track is at no place.
        met = [] if begin is None else [Grid(track.period, place - begin) for place in places]
        choices.append([(grid, None) for grid in met])
    return min([ticks.at_or_after(since) for ticks, _ in common_ticks(choices)], default=None)
