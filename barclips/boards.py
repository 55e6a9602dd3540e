"""The board of a desk: all that its deeds change, except the events that they have added before."""

from barclips.bars import bar_from, closed_numbers
from barclips.counts import tick_of_bar
from barclips.errors import BadNumber, BadWord, NotArmed, NotEmpty, NotHeld, Unknown
from barclips.gaps import first_gap
from barclips.patience import check_patience
from barclips.settings import closers


class Lane:
    """What becomes of a track."""

    def __init__(self, entry, change, ready, begun):
        self.entry = entry
        # The change that waits, a tuple (word, name, due).
        self.change = change
        # Tells whether the track is armed.
        self.ready = ready
        # The tick at which its recording began.
        self.begun = begun

    def copied(self):
        """Return a lane that may be changed instead of this one."""
        return Lane(self.entry, self.change, self.ready, self.begun)


class Cue:
    """What becomes of a lead."""

    def __init__(self, held, begun):
        # The numbers of the first and the last bar that its hold tries.
        self.held = held
        # The tick at which it began to sound.
        self.begun = begun

    def copied(self):
        """Return a cue that may be changed instead of this one."""
        return Cue(self.held, self.begun)


def partner_of(things, partners, name):
    """Return what stands in the second list where the first one has the thing of this name."""
    for thing, partner in zip(things, partners):
        if thing.name == name:
            return partner
    raise Unknown(name)


class Board:
    """The lanes of the tracks and the cues of the leads of a stage at a tick.

    A deed is carried out on a copy, so that one that raises an error changes nothing.
    """

    def __init__(self, scene, tick, lanes, cues):
        self.scene = scene
        self.tick = tick
        self.lanes = lanes
        self.cues = cues
        # The events since this board was made.
        self.told = []

    def copied(self):
        """Return a board that may be changed instead of this one, without events."""
        lanes = [lane.copied() for lane in self.lanes]
        return Board(self.scene, self.tick, lanes, [cue.copied() for cue in self.cues])

    def tell(self, word, name):
        """Add an event."""
        self.told.append((self.tick, word, name))

    def entered(self):
        """Return the list of the entries of the tracks."""
        return [lane.entry for lane in self.lanes]

    def lane_of(self, name):
        """Return the lane of the track of this name."""
        return partner_of(self.scene.tracks, self.lanes, name)

    def cue_of(self, name):
        """Return the cue of the lead of this name."""
        return partner_of(self.scene.leads, self.cues, name)

    def put_change(self, lane, word, sound, name):
        """Let a change wait for the next launch tick of the sound, and return this tick."""
        if lane.change is not None:
            self.tell("swallowed", lane.change[1])
        due = sound.grid.at_or_after(self.tick + 1)
        lane.change = (word, name, due)
        return due

    def press(self, name):
        """Press a clip, and return the tick at which this is due."""
        track = self.scene.track_with(name)
        lane, clip = self.lane_of(track.name), track.clip_of(name)
        if clip.length is not None:
            return self.put_change(lane, "enter", clip, name)
        if not lane.ready:
            raise NotArmed(track.name)
        return self.put_change(lane, "record" if lane.begun is None else "close", clip, name)

    def stop(self, name):
        """Stop a track, and return the tick at which this is due."""
        track = self.scene.find_track(name)
        return self.put_change(self.lane_of(name), "stop", track.clips[0], name)

    def hold(self, name, patience):
        """Hold a lead, and return the tick of the first bar that it tries."""
        cue = self.cue_of(name)
        if patience is not None:
            check_patience(patience)
        bars = self.scene.find_lead(name).grid
        first = bar_from(bars, self.tick + 1)
        if cue.held is not None:
            self.tell("swallowed", name)
        cue.held = (first, None if patience is None else first + patience - 1)
        return bars.tick_of(first)

    def drop(self, name):
        """End the hold of a lead."""
        cue = self.cue_of(name)
        if cue.held is None:
            raise NotHeld(name)
        cue.held = None
        self.tell("dropped", name)

    def arm(self, name):
        """Arm an empty track."""
        lane = self.lane_of(name)
        if not self.scene.find_track(name).empty:
            raise NotEmpty(name)
        lane.ready = True

    def advance(self, ticks):
        """Move on by so many ticks."""
        if ticks < 0:
            raise BadNumber(ticks)
        target = self.tick + ticks
        tick = self.next_tick()
        while tick is not None and tick <= target:
            self.tick = tick
            self.end_leads()
            self.carry_out_changes()
            self.judge_leads()
            tick = self.next_tick()
        self.tick = target

    def next_tick(self):
        """Return the first tick after this one at which something happens, or None."""
        found = [lane.change[2] for lane in self.lanes if lane.change is not None]
        for lead, cue in zip(self.scene.leads, self.cues):
            if cue.begun is not None:
                found.append(cue.begun + lead.length)
            if cue.held is not None:
                found.append(tick_of_bar(lead.grid, self.deciding_bar(lead, cue.held[1])))
        return min([tick for tick in found if tick is not None], default=None)

    def deciding_bar(self, lead, last):
        """Return the number of the bar at which the hold of the lead ends if no entry changes, or None."""
        grids = closed_numbers(self.scene, lead.name, self.entered())
        number = first_gap(grids, bar_from(lead.grid, self.tick + 1))
        if last is None or (number is not None and number <= last):
            return number
        return last

    def end_leads(self):
        """End the leads that have sounded for their length."""
        for lead, cue in zip(self.scene.leads, self.cues):
            if cue.begun is not None and cue.begun + lead.length == self.tick:
                cue.begun = None
                self.tell("ends", lead.name)

    def carry_out_changes(self):
        """Carry out the changes that are due."""
        for lane in self.lanes:
            if lane.change is not None and lane.change[2] == self.tick:
                word, name, _ = lane.change
                lane.change = None
                self.carry_out(lane, word, name)

    def carry_out(self, lane, word, name):
        """Carry out a change of this lane."""
        if word == "stop":
            self.halt(name)
        elif word == "record":
            lane.begun = self.tick
            self.tell("records", name)
        else:
            if word == "close":
                self.scene = self.scene.recorded(name, self.tick - lane.begun)
                lane.begun = None
                lane.ready = False
            lane.entry = (name, self.tick)
            self.tell("recorded" if word == "close" else "begins", name)

    def judge_leads(self):
        """Judge the held leads that have a bar now, all of them by the same entries."""
        opened = len(closers(self.scene, self.entered(), self.tick)) == 0
        for lead, cue in zip(self.scene.leads, self.cues):
            if cue.held is not None and self.tick in lead.grid:
                self.judge(lead, cue, opened)

    def judge(self, lead, cue, opened):
        """Let the lead begin, or end its hold if this closed bar was the last one."""
        if opened:
            cue.held = None
            cue.begun = self.tick
            self.tell("begins", lead.name)
            for name in lead.stops:
                self.halt(name)
        elif lead.grid.number_of(self.tick) == cue.held[1]:
            cue.held = None
            self.tell("swallowed", lead.name)

    def halt(self, name):
        """Halt the track of this name."""
        lane = self.lane_of(name)
        if lane.entry is not None or lane.begun is not None:
            self.tell("stops", name)
        lane.entry = None
        lane.begun = None
        if lane.change is not None and lane.change[0] == "close":
            self.tell("swallowed", lane.change[1])
            lane.change = None

    def do(self, deed):
        """Carry out a deed that is told by a tuple."""
        word, *rest = deed
        if word == "press":
            self.press(rest[0])
        elif word == "stop":
            self.stop(rest[0])
        elif word == "hold":
            self.hold(rest[0], rest[1] if len(rest) > 1 else None)
        elif word == "drop":
            self.drop(rest[0])
        elif word == "arm":
            self.arm(rest[0])
        elif word == "wait":
            self.advance(rest[0])
        else:
            raise BadWord(word)


def first_board(stage, now):
    """Return the board of a new desk."""
    lanes = [Lane(None, None, False, None) for _ in stage.tracks]
    return Board(stage, now, lanes, [Cue(None, None) for _ in stage.leads])
