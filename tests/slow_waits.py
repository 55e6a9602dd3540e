"""A slow model of all settings of a stage: every entry is tried, and every setting bar by bar."""

from math import lcm

from tests.scenes import bars_of, guarded, place_at, ring_of


def phases(track, entered):
    """The places at tick 0 that the track has with all its entries into this clip."""
    period = len(ring_of(track))
    if not period:
        return set()
    ticks = range(entered.grid.offset, entered.grid.offset + lcm(period, entered.grid.step), entered.grid.step)
    return {place_at(track, (entered.name, tick), 0) for tick in ticks}


class AllSettings:
    """The bars of a lead that the settings of a stage close; the bars repeat after `many` ones."""

    def __init__(self, stage, name):
        self.stage = stage
        self.grid = stage.find_lead(name).grid
        self.many = bars_of(stage, name)
        # A tuple for each setting with other closed bars than the settings before it: True for a closed bar.
        self.rows = {(False,) * self.many}
        for track in stage.tracks:
            own = self.rows_of(track)
            self.rows = {
                tuple(left or right for left, right in zip(row, more)) for row in self.rows for more in own
            } | self.rows

    def rows_of(self, track):
        period, places = len(ring_of(track)), guarded(track)
        begins = {begin for entered in track.clips for begin in phases(track, entered)}
        ticks = [self.grid.offset + self.grid.step * number for number in range(self.many)]
        return {tuple((begin + tick) % period in places for tick in ticks) for begin in begins}

    def endless(self):
        return any(all(row) for row in self.rows)

    def wait(self, row, number):
        """The number of closed bars in a row from this one on, in a row of bars that are not all closed."""
        wait = 0
        while row[(number + wait) % self.many]:
            wait += 1
        return wait

    def worst(self, number):
        """The greatest wait at this bar, or None if it is endless."""
        return None if self.endless() else max(self.wait(row, number) for row in self.rows)

    def longest(self):
        """The greatest wait at all bars, or None if it is endless."""
        return None if self.endless() else max(self.worst(number) for number in range(self.many))

    def latest(self, tick):
        """The tick before the earliest one of the last open bars up to this tick, over all settings, or None."""
        if self.endless():
            return None
        found = []
        for row in self.rows:
            number = (tick - self.grid.offset) // self.grid.step
            while row[number % self.many]:
                number -= 1
            found.append(self.grid.offset + self.grid.step * number)
        return min(found) - 1


class SlowTree:
    """The tree of point 31, by going through the possible first bars one by one."""

    def __init__(self, stage, name):
        self.stage = stage
        self.grid = stage.find_lead(name).grid
        self.many = bars_of(stage, name)
        self.phases = {
            entered.name: phases(track, entered) for track in stage.tracks for entered in track.clips
        }

    def firsts(self, number):
        """The numbers of the possible first bars; all bars are possible ones if the number is None."""
        return list(range(self.many)) if number is None else [number % self.many]

    def longest(self):
        return self.below(self.firsts(None), {})

    def worst(self, number):
        return self.below(self.firsts(number), {})

    def at_guard(self, name, begin, bar):
        """Tell whether a track that is at the place `begin` at the first bar is at a guarded one so many bars later."""
        track = self.stage.find_track(name)
        return (begin + bar * self.grid.step) % len(ring_of(track)) in guarded(track)

    def is_open(self, begins, bar):
        return not any(self.at_guard(name, begin, bar) for name, begin in begins.items())

    def below(self, numbers, begins, skips=lambda: 0):
        """The tree with these possible first bars and these chosen places at the first bar.

        As many open bars as `skips` tells are not taken for `bar`.
        """
        bar, more = 0, skips()
        while more or not self.is_open(begins, bar):
            more -= self.is_open(begins, bar)
            bar += 1
        return (bar, tuple([
            (*way, self.below(left, all_begins, skips)) for *way, left, all_begins in self.ways(numbers, begins, bar)
        ]))

    def ways(self, numbers, begins, bar):
        """The ways to close that bar, with the first bars that they leave and all chosen places."""
        found = []
        for track in self.stage.tracks:
            for place in guarded(track) if track.name not in begins else ():
                for entered in track.clips:
                    begin = (place - bar * self.grid.step) % len(ring_of(track))
                    left = [number for number in numbers if self.may_be(track, entered, begin, number)]
                    if left:
                        found.append((track.name, place, entered.name, left, {**begins, track.name: begin}))
        return found

    def shows(self, tree, limit, numbers, begins):
        """Tell whether the tree is of the form of point 32."""
        bar, branches = tree
        if not 0 <= bar <= limit or not self.is_open(begins, bar):
            return False
        found = self.ways(numbers, begins, bar)
        return [branch[:3] for branch in branches] == [way[:3] for way in found] and all(
            self.shows(branch[3], limit, left, all_begins) for branch, (*_, left, all_begins) in zip(branches, found)
        )

    def may_be(self, track, entered, place, number):
        """Tell whether an entry into this clip lets the track be at the place at the bar of this number."""
        tick = self.grid.offset + self.grid.step * number
        return (place - tick) % len(ring_of(track)) in self.phases[entered.name]


def greatest_bar(tree):
    """The greatest `bar` in a tree."""
    return max([tree[0]] + [greatest_bar(branch[3]) for branch in tree[1]])
