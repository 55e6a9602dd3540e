"""The bars of a lead: which of them are closed in a setting, and by whom."""

from barclips.errors import BadNumber
from barclips.gaps import cycle_of, first_gap
from barclips.grids import Grid
from barclips.settings import check_setting, closers, places_at

MOST_BARS = 200


class Verdict:
    """What becomes of a lead that is held."""

    def __init__(self, lead):
        self.lead = lead

    def __bool__(self):
        return False

    def line(self):
        """Return the verdict in words."""
        return self.lead


class Opening(Verdict):
    """The lead begins at this bar."""

    def __init__(self, lead, number, tick, tries):
        super().__init__(lead)
        self.number = number
        self.tick = tick
        self.tries = tries

    def __bool__(self):
        return True

    def line(self):
        """Return the verdict in words."""
        return super().line() + f" begins at {self.tick} after {self.tries} closed bars"


class Lockout(Verdict):
    """The lead never begins; at bar n the owner at index n mod N keeps it waiting."""

    def __init__(self, lead, owners):
        super().__init__(lead)
        self.owners = owners

    def __bool__(self):
        return False

    def line(self):
        """Return the verdict in words."""
        return super().line() + f" is locked out by a cycle of {len(self.owners)} bars"


class Gate:
    """Tells which ticks are open bars of a lead."""

    def __init__(self, stage, lead):
        self._bars = stage.find_lead(lead).grid
        self._stage = stage

    def __call__(self, setting, tick):
        closed_by = closers(self._stage, setting, tick)
        return tick in self._bars and len(closed_by) == 0


def bar_from(bars, tick):
    """Return the number of the first bar that is not before the tick."""
    return bars.number_of(bars.at_or_after(tick))


def numbers_among(bars, ticks):
    """Return the grid of the numbers of the bars that are on the grid of ticks, or None."""
    both = Grid.common(bars, ticks)
    if both is None:
        return None
    return Grid(both.step // bars.step, bars.number_of(both.offset))


def closings(stage, lead, setting):
    """Return the list of the tuples (track name, place, grid of the numbers of the bars met there)."""
    bars = stage.find_lead(lead).grid
    found = []
    for track, begin in zip(stage.tracks, places_at(stage, setting, 0)):
        if begin is not None:
            for place in track.places:
                numbers = numbers_among(bars, Grid(track.period, place - begin))
                if numbers is not None:
                    found.append((track.name, place, numbers))
    return found


def closed_numbers(stage, lead, setting):
    """Return the list of the grids of `closings`."""
    return [closing[2] for closing in closings(stage, lead, setting)]


def verdict(stage, lead, setting, since):
    """Judge a lead that is held at the bars that are not before the tick since."""
    bars = stage.find_lead(lead).grid
    found = closings(stage, lead, setting)
    grids = [closing[2] for closing in found]
    first = bar_from(bars, since)
    number = first_gap(grids, first)
    if number is not None:
        return Opening(lead, number, bars.tick_of(number), number - first)
    return Lockout(lead, tuple([found[index][:2] for index in cycle_of(grids)]))


def walk(stage, lead, setting, since, count):
    """Yield a tuple (number, tick, closers) for each of so many bars in a row."""
    bars = stage.find_lead(lead).grid
    # The caller may change the list between two bars.
    entries = list(setting)
    check_setting(stage, entries)
    if count < 0 or count > MOST_BARS:
        raise BadNumber(count)
    first = bar_from(bars, since)
    for number in range(first, first + count):
        tick = bars.tick_of(number)
        yield (number, tick, closers(stage, entries, tick))
