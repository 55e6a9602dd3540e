"""A slow desk that goes tick by tick, and stages for it."""

import copy
import random

from barclips.grids import Grid
from barclips.sounds import Clip, Lead
from barclips.stages import Stage
from barclips.tracks import Track
from tests.scenes import clip, closers_at, drawn_track, playing_at, repeat_of


class Refused(Exception):
    """What the slow desk raises: the name of an error, and the value of its attribute."""


class SlowDesk:
    """The desk of points 36 to 42 with its state in a single dict."""

    def __init__(self, stage, now=0):
        self.state = {
            "stage": stage, "now": now, "entries": {track.name: None for track in stage.tracks},
            "waiting": {track.name: None for track in stage.tracks}, "armed": [], "recording": {},
            "holds": {lead.name: None for lead in stage.leads}, "begun": {}, "events": [],
        }
        self.past = []

    def deed(self, word, *given):
        """Carry out a deed, or raise Refused and change nothing."""
        before = self.copied()
        try:
            result = getattr(self, "do_" + word)(*given)
        except Refused:
            self.state = before
            raise
        self.past.append(before)
        return result

    def copied(self):
        shared = {"stage": self.state["stage"]}
        return {**copy.deepcopy({key: worth for key, worth in self.state.items() if key != "stage"}), **shared}

    def undo(self):
        if not self.past:
            raise Refused("NothingToUndo", None)
        self.state = self.past.pop()

    def add(self, word, name):
        self.state["events"].append((self.state["now"], word, name))

    def track(self, name):
        return next((track for track in self.state["stage"].tracks if track.name == name), None)

    def lead(self, name):
        return next((lead for lead in self.state["stage"].leads if lead.name == name), None)

    def next_on(self, grid):
        tick = self.state["now"] + 1
        while (tick - grid.offset) % grid.step:
            tick += 1
        return tick

    def wait(self, track, word, name, grid):
        if self.state["waiting"][track] is not None:
            self.add("swallowed", self.state["waiting"][track][1])
        self.state["waiting"][track] = (word, name, self.next_on(grid))
        return self.next_on(grid)

    def do_press(self, name):
        for track in self.state["stage"].tracks:
            for each in track.clips:
                if each.name == name:
                    word = "enter"
                    if each.length is None:
                        if track.name not in self.state["armed"]:
                            raise Refused("NotArmed", track.name)
                        word = "close" if track.name in self.state["recording"] else "record"
                    return self.wait(track.name, word, name, each.grid)
        raise Refused("Unknown", name)

    def do_stop(self, name):
        if self.track(name) is None:
            raise Refused("Unknown", name)
        return self.wait(name, "stop", name, self.track(name).clips[0].grid)

    def do_hold(self, name, patience=None):
        if self.lead(name) is None:
            raise Refused("Unknown", name)
        if patience is not None and not 1 <= patience <= 64:
            raise Refused("BadNumber", patience)
        if self.state["holds"][name] is not None:
            self.add("swallowed", name)
        grid = self.lead(name).grid
        tick = self.next_on(grid)
        first = (tick - grid.offset) // grid.step
        self.state["holds"][name] = (first, None if patience is None else first + patience - 1)
        return tick

    def do_drop(self, name):
        if self.lead(name) is None:
            raise Refused("Unknown", name)
        if self.state["holds"][name] is None:
            raise Refused("NotHeld", name)
        self.state["holds"][name] = None
        self.add("dropped", name)

    def do_arm(self, name):
        if self.track(name) is None:
            raise Refused("Unknown", name)
        if self.track(name).clips[0].length is not None:
            raise Refused("NotEmpty", name)
        if name not in self.state["armed"]:
            self.state["armed"].append(name)

    def do_advance(self, ticks):
        if ticks < 0:
            raise Refused("BadNumber", ticks)
        many = len(self.state["events"])
        for _ in range(ticks):
            self.tick()
        return self.state["events"][many:]

    def do_go_to(self, tick):
        if tick < self.state["now"]:
            raise Refused("BadNumber", tick)
        return self.do_advance(tick - self.state["now"])

    def do_item(self, name, worth):
        track = self.track(name)
        if track is None:
            raise Refused("Unknown", name)
        if worth is None:
            self.do_stop(name)
        elif worth not in [each.name for each in track.clips]:
            raise Refused("Unknown", worth)
        else:
            self.do_press(worth)

    def do_attempt(self, deeds):
        many = len(self.state["events"])
        for word, *given in deeds:
            if word not in ("press", "stop", "hold", "drop", "arm", "wait"):
                raise Refused("BadWord", word)
            getattr(self, "do_" + {"wait": "advance"}.get(word, word))(*given)
        return self.state["events"][many:]

    def tick(self):
        state = self.state
        state["now"] += 1
        now = state["now"]
        for lead in state["stage"].leads:
            if state["begun"].get(lead.name) == now - lead.length:
                del state["begun"][lead.name]
                self.add("ends", lead.name)
        for name, change in list(state["waiting"].items()):
            if change is not None and change[2] == now:
                state["waiting"][name] = None
                self.carry_out(name, change[0], change[1])
        closed = bool(closers_at(state["stage"], list(state["entries"].values()), now))
        for lead in state["stage"].leads:
            hold = state["holds"][lead.name]
            if hold is not None and (now - lead.grid.offset) % lead.grid.step == 0:
                self.judge(lead, hold, closed)

    def carry_out(self, track, word, name):
        state = self.state
        if word == "stop":
            self.halt(track)
        elif word == "record":
            state["recording"][track] = state["now"]
            self.add("records", name)
        elif word == "enter":
            state["entries"][track] = (name, state["now"])
            self.add("begins", name)
        else:
            self.fill(track, state["now"] - state["recording"].pop(track))
            state["armed"].remove(track)
            state["entries"][track] = (name, state["now"])
            self.add("recorded", name)

    def fill(self, name, length):
        stage = self.state["stage"]
        tracks = []
        for track in stage.tracks:
            empty = track.clips[0]
            if track.name == name:
                guards = [guard for guard in empty.guards if guard < length]
                track = Track(name, Clip(empty.name, grid=empty.grid, length=length, guards=guards))
            tracks.append(track)
        self.state["stage"] = Stage(tracks, stage.leads)

    def judge(self, lead, hold, closed):
        state = self.state
        if not closed:
            state["holds"][lead.name] = None
            state["begun"][lead.name] = state["now"]
            self.add("begins", lead.name)
            for stop in lead.stops:
                self.halt(stop)
        elif hold[1] is not None and state["now"] == lead.grid.offset + lead.grid.step * hold[1]:
            state["holds"][lead.name] = None
            self.add("swallowed", lead.name)

    def halt(self, track):
        state = self.state
        if state["entries"][track] is not None or track in state["recording"]:
            self.add("stops", track)
        state["entries"][track] = None
        state["recording"].pop(track, None)
        change = state["waiting"][track]
        if change is not None and change[0] == "close":
            state["waiting"][track] = None
            self.add("swallowed", change[1])

    def view(self):
        """Everything that a desk shows, by the names of its properties, and its events and items."""
        state = self.state
        entries = list(state["entries"].values())
        played = playing_at(state["stage"], entries, state["now"])
        return {
            "stage": state["stage"].write(), "now": state["now"], "entries": entries,
            "waiting": list(state["waiting"].values()), "holds": list(state["holds"].values()),
            "armed": [track.name for track in state["stage"].tracks if track.name in state["armed"]],
            "sounding": [item[0] for item in played if item is not None]
            + [lead.name for lead in state["stage"].leads if lead.name in state["begun"]],
            "events": state["events"],
            "items": played,
        }


def view_of(desk):
    """The same of a desk."""
    return {
        "stage": desk.stage.write(), "now": desk.now, "entries": desk.entries, "waiting": desk.waiting,
        "holds": desk.holds, "armed": desk.armed, "sounding": desk.sounding, "events": list(desk),
        "items": [desk[track.name] for track in desk.stage.tracks],
    }


def drawn_live_stage(numbers):
    """A small stage with empty tracks and with leads that stop tracks."""
    while True:
        tracks, guards = [], 6
        for at in range(numbers.choice((1, 2, 2, 3, 4))):
            if numbers.randrange(3) == 0:
                empty = [guard for guard in range(6) if numbers.randrange(4) == 0][:guards]
                track = Track(f"t{at}", clip(f"c{at}x0", numbers.choice(("1", "2+1", "3")), None, 1, empty))
            else:
                track = drawn_track(numbers, at, guards)
            guards -= sum(len(each.guards) * each.rounds for each in track.clips)
            tracks.append(track)
        names = [track.name for track in tracks]
        leads = [Lead(
            f"l{at}", grid=Grid(numbers.choice((1, 2, 2, 3, 4)), numbers.randrange(4)),
            length=numbers.choice((1, 2, 3, 5, 9)),
            stops=numbers.sample(names, numbers.choice((0, 0, 1, min(2, len(names))))),
        ) for at in range(numbers.choice((1, 2, 3, 4)))]
        if repeat_of(Stage(tracks)) <= 200:
            return Stage(tracks, leads)


def drawn_deed(numbers, stage):
    """A deed as a word and what is given with it, which may be refused."""
    clips = [each.name for track in stage.tracks for each in track.clips] + ["nobody"] * (numbers.randrange(9) == 0)
    tracks = [track.name for track in stage.tracks] + ["nobody"] * (numbers.randrange(9) == 0)
    leads = [lead.name for lead in stage.leads] + ["nobody"] * (numbers.randrange(9) == 0)
    word = numbers.choice(("press",) * 5 + ("stop", "hold", "hold", "hold", "arm", "arm", "drop") + ("wait",) * 6)
    if word == "press":
        return (word, numbers.choice(clips))
    if word in ("stop", "arm"):
        return (word, numbers.choice(tracks))
    if word == "drop":
        return (word, numbers.choice(leads))
    if word == "hold":
        patience = numbers.choice((None, None, None, 1, 1, 2, 3, 5, 64, 65, 0))
        return (word, numbers.choice(leads)) + (() if patience is None else (patience,))
    return (word, numbers.choice((0, 1, 1, 2, 3, 5, 8, 13, 30, -1)))


def live_stages(amount, seed):
    numbers = random.Random(seed)
    return [drawn_live_stage(numbers) for _ in range(amount)]
