"""The ways to close a bar, over all settings of a stage."""

from math import gcd

from barclips.errors import BadNumber
from barclips.grids import Grid


def moments_of(track, place, clip):
    """Return the grid of the ticks at which the track may be at the place if its entry names the clip.

    The tick of the entry may be any one of the clip's launch grid.
    """
    return Grid(gcd(track.period, clip.grid.step), place - track.start_of(clip.name) + clip.grid.offset)


def entry_at(track, clip, place, tick):
    """Return an entry that names the clip, with the track at the place at this one of its moments."""
    entered = Grid(track.period, track.start_of(clip.name) + tick - place) & clip.grid
    return (clip.name, entered.offset)


def ways_to_close(stage, bars, ticks):
    """Return the ways to close the bar that comes so many ticks after the first one."""
    found = []
    for track in stage.tracks:
        for place in track.places:
            for clip in track.clips:
                moments = Grid.common(moments_of(track, place - ticks, clip), bars)
                if moments is not None:
                    found.append((track.name, place, clip.name, moments))
    return found


def ways(stage, lead, bar):
    """Return the list of the ways (track name, place, clip name, moments) to close that bar."""
    bars = stage.find_lead(lead).grid
    if bar < 0:
        raise BadNumber(bar)
    return ways_to_close(stage, bars, bar * bars.step)
