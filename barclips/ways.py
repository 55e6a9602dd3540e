"""The ways to close a bar, over all settings of a stage."""

from math import gcd

from barclips.errors import BadNumber
from barclips.grids import Grid


def first_bars(track, place, clip, ticks):
    """Return the grid of the ticks of first bars from which the track is at the place so many ticks later.

    The entry of the track names the clip, and its tick may be any one of the clip's launch grid.
    """
    begin = (place - ticks) % track.period
    return Grid(gcd(track.period, clip.grid.step), begin - track.start_of(clip.name) + clip.grid.offset)


def ways(stage, lead, bar):
    """Return the list of the ways (track name, place, clip name, moments) to close that bar."""
    bars = stage.find_lead(lead).grid
    if bar < 0:
        raise BadNumber(bar)
    found = []
    for track in stage.tracks:
        for place in track.places:
            for clip in track.clips:
                moments = Grid.common(first_bars(track, place, clip, bar * bars.step), bars)
                if moments is not None:
                    found.append((track.name, place, clip.name, moments))
    return found
