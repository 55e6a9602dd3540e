"""Plans: ways to close bars that are chosen one after the other, each for another track."""

from barclips.bars import numbers_among
from barclips.gaps import first_gap, is_gap
from barclips.grids import Grid
from barclips.ways import entry_at, ways_to_close


class Course:
    """The bars of a lead from a first one on, each one `step` ticks after the one before it.

    A step below 0 takes the bars backwards.
    """

    def __init__(self, stage, bars, step):
        self._stage = stage
        self._bars = bars
        self._step = step
        # Many plans ask for the ways to close the same bar.
        self._known = {}

    def ways_at(self, bar):
        """Return the ways to close the bar that comes so many bars after the first one."""
        if bar not in self._known:
            self._known[bar] = ways_to_close(self._stage, self._bars, bar * self._step)
        return self._known[bar]

    def begin_of(self, name, place, bar):
        """Return the place at the first bar of a track that is at this place so many bars later."""
        return (place - bar * self._step) % self._stage.find_track(name).period

    def closed_from(self, name, begin):
        """Return grids of integers: so many bars after the first one this track closes the bar."""
        track = self._stage.find_track(name)
        forward = 1 if self._step > 0 else -1
        steps = Grid(forward * self._step)
        found = [
            numbers_among(steps, Grid(track.period, forward * (place - begin))) for place in track.places
        ]
        return [numbers for numbers in found if numbers is not None]

    def setting_with(self, begins, tick):
        """Return the setting, as a tuple, with these clips and places at the tick of the first bar."""
        entries = []
        for track in self._stage.tracks:
            if track.name in begins:
                name, begin = begins[track.name]
                entries.append(entry_at(track, track.clip_of(name), begin, tick))
            else:
                entries.append(None)
        return tuple(entries)


def left_bars(firsts, moments):
    """Return which of the possible first bars are moments, or None if there are none.

    Possible first bars are a grid of ticks, or a single tick.
    """
    if isinstance(firsts, Grid):
        return Grid.common(firsts, moments)
    return firsts if firsts in moments else None


class Plan:
    """The ways that are chosen, and the possible first bars that they leave."""

    def __init__(self, course, firsts, begins, closed):
        self._course = course
        self._firsts = firsts
        # For the name of each track with a chosen way, the clip name and the place at the first bar.
        self._begins = begins
        self._closed = closed

    def first_open(self):
        """Return how many bars after the first one the first open bar comes, or None."""
        return first_gap(self._closed, 0)

    def leaves_open(self, bar):
        """Tell whether no chosen way closes the bar that comes so many bars after the first one."""
        return is_gap(self._closed, bar)

    def branches(self, bar):
        """Return the list of the tuples (track name, place, clip name, plan) of ways to close that bar."""
        found = []
        for name, place, clip, moments in self._course.ways_at(bar):
            left = None if name in self._begins else left_bars(self._firsts, moments)
            if left is not None:
                begin = self._course.begin_of(name, place, bar)
                begins = {**self._begins, name: (clip, begin)}
                closed = self._closed + self._course.closed_from(name, begin)
                found.append((name, place, clip, Plan(self._course, left, begins, closed)))
        return found

    def first_tick(self):
        """Return the tick of a possible first bar."""
        return self._firsts.offset if isinstance(self._firsts, Grid) else self._firsts

    def as_setting(self):
        """Return a setting, as a tuple, in which the chosen ways begin at `first_tick`."""
        return self._course.setting_with(self._begins, self.first_tick())


def empty_plan(stage, bars, step, firsts):
    """Return the plan in which no way is chosen."""
    return Plan(Course(stage, bars, step), firsts, {}, [])


def explore(plan):
    """Return a tuple (wait, plan, tree) of the greatest wait with the chosen ways of the plan.

    The plan in the tuple has this wait. An endless wait is None and has the tree None.
    """
    bar = plan.first_open()
    if bar is None:
        return (None, plan, None)
    greatest, best, branches = bar, plan, []
    for name, place, clip, below in plan.branches(bar):
        wait, found, tree = explore(below)
        if wait is None:
            return (None, found, None)
        if wait > greatest:
            greatest, best = wait, found
        branches.append((name, place, clip, tree))
    return (greatest, best, (bar, tuple(branches)))
