"""Points 2, 23 and 29: the ways to close a bar."""

import unittest
from math import lcm

from barclips.bars import Gate
from barclips.errors import BadNumber, Unknown
from barclips.grids import Grid
from barclips.settings import check_setting, closers
from barclips.sounds import Clip, Lead
from barclips.stages import Stage
from barclips.tracks import Track
from barclips.ways import ways
from tests.helpers import FAR, GridTests
from tests.scenes import (
    bare, clip, coprime, duo, guarded, huge, ladder, lead, place_at, quiet, rings, ring_of, single, stages, turns,
)

BARS = (0, 1, 2, 3, 7, 63, 64, FAR, FAR + 1)


def lists_of(found):
    """The ways with the numbers of their moments."""
    return [(*way, moments.step, moments.offset) for *way, moments in found]


def entries_at(track, entered, place, tick):
    """The ticks at which the track may enter this clip so that it is at the place at the tick."""
    stretch = lcm(len(ring_of(track)), entered.grid.step)
    return [
        at for at in range(entered.grid.offset, entered.grid.offset + stretch, entered.grid.step)
        if place_at(track, (entered.name, at), tick) == place
    ]


class WaysTests(GridTests):
    def expected(self, stage, found, bar):
        """The ways and their moments, by trying every entry for every first bar."""
        made = []
        for track in stage.tracks:
            for place in guarded(track):
                for entered in track.clips:
                    stretch = lcm(len(ring_of(track)), entered.grid.step, found.grid.step)
                    ticks = range(found.grid.offset, found.grid.offset + stretch, found.grid.step)
                    moments = [
                        tick for tick in ticks if entries_at(track, entered, place, tick + bar * found.grid.step)
                    ]
                    if moments:
                        made.append((track.name, place, entered.name, stretch, tuple(moments)))
        return made

    def test_against_every_entry(self):
        for stage in stages():
            for found in stage.leads:
                for bar in (0, 1, 5):
                    made = ways(stage, found.name, bar)
                    expected = self.expected(stage, found, bar)
                    self.assertIs(type(made), list)
                    self.assertEqual([way[:3] for way in made], [way[:3] for way in expected])
                    for (_, _, _, moments), (_, _, _, stretch, ticks) in zip(made, expected):
                        low = found.grid.offset
                        inside = range(moments.at_or_after(low), low + stretch, moments.step)
                        self.assertEqual(tuple(inside), ticks)
                        self.assertEqual(stretch % moments.step, 0)

    def test_at_each_moment_a_setting_with_that_entry_closes_the_bar(self):
        for stage in stages():
            for found in stage.leads:
                for bar in BARS:
                    for name, place, entered, moments in ways(stage, found.name, bar):
                        for number in (0, 1, -5, FAR):
                            self.assert_closes(stage, found, bar, (name, place, entered), moments.tick_of(number))

    def assert_closes(self, stage, found, bar, way, moment):
        name, place, entered = way
        track = stage.find_track(name)
        tick = moment + bar * found.grid.step
        self.assertEqual((moment - found.grid.offset) % found.grid.step, 0)
        entries = entries_at(track, stage.find_clip(entered), place, tick)
        self.assertTrue(entries)
        setting = [(entered, entries[0]) if other is track else None for other in stage.tracks]
        self.assertEqual(check_setting(stage, setting), 1)
        self.assertEqual(closers(stage, setting, tick), [(name, place)])
        self.assertIs(Gate(stage, found.name)(setting, tick), False)

    def test_one_track(self):
        self.assertEqual(lists_of(ways(turns(), "horn", 0)),
                         [("loop", place, "riff", 4, place % 4) for place in (1, 3, 5, 7, 9, 11)])
        self.assertEqual(lists_of(ways(turns(), "horn", 1)),
                         [("loop", place, "riff", 4, (place - 2) % 4) for place in (1, 3, 5, 7, 9, 11)])
        self.assertEqual(lists_of(ways(turns(), "pipe", 0)),
                         [("loop", place, "riff", 12, place * 9 % 12) for place in (1, 3, 5, 7, 9, 11)])

    def test_several_tracks(self):
        self.assertEqual(lists_of(ways(duo(), "horn", 0)), [("drums", 0, "kick", 4, 0), ("metal", 0, "hat", 4, 0)])
        self.assertEqual(lists_of(ways(duo(), "pipe", 3)), [("drums", 0, "kick", 8, 4), ("metal", 0, "hat", 8, 4)])
        self.assertEqual(lists_of(ways(duo(), "bell", 0)), [("drums", 0, "kick", 12, 4), ("metal", 0, "hat", 12, 4)])
        self.assertEqual(lists_of(ways(duo(), "bell", 1)), [("drums", 0, "kick", 12, 1), ("metal", 0, "hat", 12, 1)])
        self.assertEqual(lists_of(ways(coprime(), "each", 0)),
                         [("two", 1, "tick", 1, 0), ("three", 0, "tock", 1, 0), ("three", 2, "tock", 1, 0),
                          ("five", 4, "tack", 1, 0)])

    def test_the_order(self):
        # The tracks, then the places, then the clips in the track.
        made = [way[:3] for way in lists_of(ways(rings(), "pipe", 2))]
        self.assertEqual(made, [
            ("drums", place, entered) for place in (0, 2, 3, 5, 7) for entered in ("kick", "snare", "rim")
        ])
        stage = Stage([Track("b", clip("z", "1", 2, guards=[1]), clip("y", "1", 2, guards=[0])),
                       Track("a", clip("x", "1", 2, guards=[0, 1]))], [lead("horn", "1")])
        self.assertEqual([way[:3] for way in lists_of(ways(stage, "horn", 0))], [
            ("b", 1, "z"), ("b", 1, "y"), ("b", 2, "z"), ("b", 2, "y"), ("a", 0, "x"), ("a", 1, "x"),
        ])

    def test_ways_without_a_moment_are_left_out(self):
        stage = Stage([Track("a", clip("b", "4", 4, guards=[0, 1])), Track("c", clip("d", "2", 8, guards=[3]))],
                      [lead("horn", "4"), lead("pipe", "4+1"), lead("bell", "4+2"), lead("odd", "2+1")])
        self.assertEqual(lists_of(ways(stage, "horn", 0)), [("a", 0, "b", 4, 0)])
        self.assertEqual(lists_of(ways(stage, "pipe", 0)), [("a", 1, "b", 4, 1), ("c", 3, "d", 4, 1)])
        self.assertEqual(lists_of(ways(stage, "bell", 0)), [])
        self.assertEqual(lists_of(ways(stage, "odd", 0)), [("a", 1, "b", 4, 1), ("c", 3, "d", 2, 1)])
        self.assertEqual(lists_of(ways(stage, "odd", 1)), [("a", 1, "b", 4, 3), ("c", 3, "d", 2, 1)])

    def test_offsets_of_launch_grids_and_starts_of_clips(self):
        stage = Stage([Track("a", clip("b", "8+3", 8, guards=[1]), clip("c", "16+5", 8))], [lead("horn", "1")])
        self.assertEqual(lists_of(ways(stage, "horn", 0)), [("a", 1, "b", 8, 4), ("a", 1, "c", 16, 14)])
        self.assertEqual(lists_of(ways(stage, "horn", 5)), [("a", 1, "b", 8, 7), ("a", 1, "c", 16, 9)])
        self.assertEqual(lists_of(ways(stage, "horn", 16 * FAR + 5)), [("a", 1, "b", 8, 7), ("a", 1, "c", 16, 9)])

    def test_tracks_without_ways(self):
        for bar in BARS:
            self.assertEqual(ways(quiet(), "horn", bar), [])
            self.assertEqual(ways(bare(), "horn", bar), [])
            self.assertEqual([way for way in ways(rings(), "pipe", bar) if way[0] != "drums"], [])

    def test_a_recorded_clip_has_ways(self):
        made = lists_of(ways(rings().recorded("blank", 10), "pipe", 0))
        self.assertEqual(made[15:], [("tape", 7, "blank", 5, 4)])

    def test_large_bars(self):
        for bar in (FAR, FAR + 1, FAR + 2):
            for stage, name in ((duo(), "horn"), (rings(), "bell"), (ladder(), "horn"), (single(), "horn")):
                step = stage.find_lead(name).grid.step
                for (*way, moments), (*early, first) in zip(ways(stage, name, bar), ways(stage, name, 0)):
                    self.assertEqual(way, early)
                    self.assertEqual(moments.step, first.step)
                    self.assertEqual((moments.offset + bar * step - first.offset) % first.step, 0)

    def test_large_steps(self):
        stage = Stage([Track("a", Clip("b", grid=Grid(2 * FAR, 5), length=FAR, rounds=3, guards=[FAR - 1]))],
                      [Lead("horn", grid=Grid(2, 1), length=1), Lead("pipe", grid=Grid(FAR, 4), length=1)])
        self.assertEqual(lists_of(ways(stage, "horn", 0)), [])
        # The places are FAR - 1, 2 * FAR - 1 and 3 * FAR - 1; the period and the step have the divisor FAR.
        self.assertEqual(lists_of(ways(stage, "pipe", 7)), [
            ("a", place, "b", FAR, 4) for place in (FAR - 1, 2 * FAR - 1, 3 * FAR - 1)
        ])
        found = ways(huge(), "horn", 2)
        self.assertEqual([way[:3] for way in found], [
            ("drums", place, "kick") for place in (0, FAR - 2, FAR - 1, 2 * FAR - 3)
        ] + [("bass", 4, "low")])

    def test_grids_and_lists_are_new(self):
        stage = duo()
        ways(stage, "horn", 0).clear()
        made = ways(stage=stage, lead="horn", bar=0)
        self.assertEqual(len(made), 2)
        self.assertTrue(all(type(way) is tuple and isinstance(way[3], Grid) for way in made))


class CheckTests(GridTests):
    def test_bars_below_zero_are_refused(self):
        for stage in stages():
            for found in stage.leads:
                for bar in (-1, -2, -64, -FAR):
                    self.assert_raises_with(BadNumber, {"value": bar}, ways, stage, found.name, bar)

    def test_unknown_leads_come_first(self):
        for bar in (0, 5, -1):
            for name in ("drums", "kick", "", "Horn"):
                self.assert_raises_with(Unknown, {"name": name}, ways, duo(), name, bar)


if __name__ == "__main__":
    unittest.main()
