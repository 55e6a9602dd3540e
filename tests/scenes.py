"""What the tests of stages and settings need: stages of all kinds, and a slow model of their tracks."""

import random
from itertools import count
from math import lcm

from barclips.grids import Grid
from barclips.sounds import Clip, Lead
from barclips.stages import Stage
from barclips.tracks import Track
from tests.helpers import FAR


def clip(name, grid, length, rounds=1, guards=()):
    return Clip(name, grid=Grid.read(grid), length=length, rounds=rounds, guards=guards)


def lead(name, grid, length=4, stops=()):
    return Lead(name, grid=Grid.read(grid), length=length, stops=stops)


def duo():
    """Two tracks of one clip each."""
    return Stage(
        [Track("drums", clip("kick", "4", 8, guards=[0])), Track("metal", clip("hat", "4", 16, guards=[0]))],
        [lead("horn", "4", 6), lead("pipe", "8+4", 6), lead("bell", "3+1", 1, ["metal"])],
    )


def rings():
    """Tracks of several clips with rounds, offsets and guards, an empty track, and four leads."""
    return Stage(
        [
            Track("drums", clip("kick", "4", 3, 2, [0, 2]), clip("snare", "6+3", 5, guards=[1]), clip("rim", "1", 1)),
            Track("tape", clip("blank", "5+2", None, guards=[7])),
            Track("bass", clip("low", "2+1", 4, 1, []), clip("high", "10", 2, 1, [])),
            Track("keys", clip("pad", "3", 6)),
        ],
        [lead("horn", "2"), lead("pipe", "1"), lead("bell", "15+7", 20, ["bass", "drums"]), lead("drone", "12+11")],
    )


def coprime():
    """Tracks whose periods have no common factor."""
    return Stage(
        [Track("two", clip("tick", "3", 2, guards=[1])), Track("three", clip("tock", "2+1", 3, guards=[0, 2])),
         Track("five", clip("tack", "1", 5, guards=[4]))],
        [lead("each", "1"), lead("third", "3+2"), lead("tenth", "10")],
    )


def ladder():
    """Six tracks that together can close every bar, by a cycle of at most 32 bars."""
    lengths = (4, 8, 16, 32, 64, 64)
    tracks = [
        Track(f"track{at}", clip(f"clip{at}", "2", length, guards=[0])) for at, length in enumerate(lengths)
    ]
    return Stage(tracks, [lead("horn", "2"), lead("pipe", "2+1"), lead("bell", "6")])


def single():
    """One track that is guarded at all its steps, and one that is guarded at a single far step."""
    return Stage(
        [Track("wall", clip("brick", "7", 3, 2, [0, 1, 2]))], [lead("horn", "5"), lead("pipe", "3"), lead("bell", "1")]
    )


def turns():
    """One clip of three rounds with two guards, so that a place has a turn."""
    return Stage([Track("loop", clip("riff", "4", 4, 3, [1, 3]))], [lead("horn", "2+1"), lead("pipe", "3")])


def uneven():
    """A track whose clips begin at places that matter for the entries by long launch grids."""
    return Stage(
        [Track("loop", clip("one", "4", 2, guards=[1]), clip("two", "6+1", 8, guards=[0, 5]),
               clip("three", "12+2", 2, guards=[1])),
         Track("beat", clip("tick", "1", 3, guards=[2]), clip("tock", "10+3", 2, guards=[0]))],
        [lead("horn", "1"), lead("pipe", "6+4"), lead("bell", "4+3", 2, ["beat"])],
    )


def quiet():
    """No track is guarded, and one is empty."""
    return Stage([Track("drums", clip("kick", "4", 8)), Track("tape", clip("blank", "4", None))], [lead("horn", "4")])


def bare():
    """No tracks at all."""
    return Stage([], [lead("horn", "4+1")])


def stages():
    return [duo(), rings(), coprime(), ladder(), single(), turns(), uneven(), quiet(), bare()]


def huge():
    """Steps and lengths of hundreds of digits."""
    return Stage(
        [Track("drums", Clip("kick", grid=Grid(FAR, 5), length=FAR - 1, rounds=2, guards=[0, FAR - 2])),
         Track("bass", Clip("low", grid=Grid(6, 1), length=9, guards=[4]))],
        [Lead("horn", grid=Grid(FAR + 1, 7), length=FAR), Lead("pipe", grid=Grid(3, 2), length=1)],
    )


def settings_of(stage, amount, seed=1):
    """That many settings of the stage, at first the silent one."""
    numbers = random.Random(seed)
    found = [[None] * len(stage.tracks)]
    for at in range(amount - 1):
        setting = []
        for track in stage.tracks:
            if track.empty or (at > 2 and numbers.randrange(5) == 0):
                setting.append(None)
            else:
                chosen = numbers.choice(track.clips)
                setting.append((chosen.name, chosen.grid.offset + chosen.grid.step * numbers.randrange(-20, 20)))
        found.append(setting)
    return found


def ring_of(track):
    """The list of the tuples (clip name, turn, step) of all places of a track."""
    return [
        (clip.name, turn, step)
        for clip in track.clips if clip.length is not None
        for turn in range(clip.rounds) for step in range(clip.length)
    ]


def guarded(track):
    """The list of the guarded places of a track."""
    guards = {clip.name: clip.guards for clip in track.clips}
    return [place for place, (name, _, step) in enumerate(ring_of(track)) if step in guards[name]]


def place_at(track, entry, tick):
    """The place of a track that entered at the entry, by going through its ring."""
    name, entered = entry
    ring = ring_of(track)
    return (ring.index((name, 0, 0)) + tick - entered) % len(ring)


def playing_at(stage, setting, tick):
    return [
        None if entry is None else ring_of(track)[place_at(track, entry, tick)]
        for track, entry in zip(stage.tracks, setting)
    ]


def closers_at(stage, setting, tick):
    found = []
    for track, entry in zip(stage.tracks, setting):
        if entry is not None and place_at(track, entry, tick) in guarded(track):
            found.append((track.name, place_at(track, entry, tick)))
    return found


def repeat_of(stage):
    """A number of ticks after which every setting of the stage sounds the same again."""
    return lcm(*[len(ring_of(track)) or 1 for track in stage.tracks])


def bars_of(stage, name):
    """A number of bars of the lead after which every setting closes the same ones again."""
    step = stage.find_lead(name).grid.step
    return lcm(repeat_of(stage), step) // step


class Bars:
    """The closers of the bars of a lead, bar by bar over as many bars as it takes till they repeat."""

    def __init__(self, stage, name, setting):
        self.grid = stage.find_lead(name).grid
        self.many = bars_of(stage, name)
        self.closers = [
            closers_at(stage, setting, self.grid.offset + self.grid.step * number) for number in range(self.many)
        ]
        self.open_numbers = [number for number in range(self.many) if not self.closers[number]]

    def tick(self, number):
        return self.grid.offset + self.grid.step * number

    def first_from(self, tick):
        """The number of the first bar not before the tick."""
        return -((self.grid.offset - tick) // self.grid.step)

    def closed_by(self, number):
        return self.closers[number % self.many]

    def is_open(self, number):
        return not self.closed_by(number)

    def opens_below(self, number):
        """The number of open bars from bar 0 on to this one; it is negative for a negative number."""
        rest = number % self.many
        return number // self.many * len(self.open_numbers) + sum(at < rest for at in self.open_numbers)

    def next_open(self, number):
        """The number of the first open bar from this one on, or None."""
        for at in range(number, number + self.many):
            if self.is_open(at):
                return at
        return None

    def owners(self):
        """The shortest cycle of owners of bars that are all closed."""
        for size in count(1):
            found = [self.owner_of(size, remainder) for remainder in range(size)]
            if None not in found:
                return tuple(found)

    def owner_of(self, size, remainder):
        """The first closer of all the bars whose numbers leave the remainder."""
        numbers = range(remainder, lcm(self.many, size), size)
        for closer in self.closed_by(remainder):
            if all(closer in self.closed_by(number) for number in numbers):
                return closer
        return None


def limits(*lengths, first=0):
    """A stage at its limits: six tracks, eight clips and six guards, with clips of these lengths on a grid of 2.

    The guarded step is the first one. The tracks after index `first` have a second clip.
    """
    tracks = []
    for at, length in enumerate(lengths):
        if at in (first, first + 1):
            clips = [clip(f"c{at}", "2", length // 2, 1, [0]), clip(f"d{at}", "4+2", length - length // 2)]
        else:
            clips = [clip(f"c{at}", "2", length, 1, [0])]
        tracks.append(Track(f"t{at}", *clips))
    return Stage(tracks, [lead("horn", "2"), lead("pipe", "2+1"), lead("bell", "6")])


def drawn_track(numbers, at, guards):
    """A small track with at most so many guards, the rounds counted."""
    clips = []
    for index in range(numbers.choice((1, 1, 2, 3)) if at < 2 else 1):
        length, rounds = numbers.choice((1, 2, 2, 3, 4, 6, 8)), numbers.choice((1, 1, 1, 2))
        many = min(numbers.choice((0, 1, 1, 2)), length, guards // rounds)
        guards -= many * rounds
        clips.append(Clip(
            f"c{at}x{index}", grid=Grid(numbers.choice((1, 2, 3, 4, 6, 8)), numbers.randrange(-9, 9)),
            length=length, rounds=rounds, guards=sorted(numbers.sample(range(length), many)),
        ))
    return Track(f"t{at}", *clips)


def drawn_stage(numbers):
    """A small stage, some of whose tracks may be empty, with two leads."""
    tracks, guards = [], 6
    for at in range(numbers.choice((1, 2, 2, 3, 3, 4))):
        if numbers.randrange(12) == 0:
            tracks.append(Track(f"t{at}", clip(f"c{at}x0", "2+1", None)))
        else:
            tracks.append(drawn_track(numbers, at, guards))
        guards -= len(tracks[-1].places)
    grids = [Grid(numbers.choice((1, 1, 2, 3, 4, 5)), numbers.randrange(-9, 9)) for _ in range(2)]
    return Stage(tracks, [Lead(name, grid=grid, length=3) for name, grid in zip(("horn", "pipe"), grids)])


def drawn(amount, seed):
    """That many small stages that repeat after at most 120 ticks."""
    numbers = random.Random(seed)
    found = []
    while len(found) < amount:
        stage = drawn_stage(numbers)
        if repeat_of(stage) <= 120:
            found.append(stage)
    return found
